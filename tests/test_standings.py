import random
import unittest

from drawn import (
    BLOCK, BOARDS, COLUMN, CORNER, CROSS, FRAME, LINE, LONG_CORNER, ONE, PLUS, SPRINKLED, SQUARE, all_sublists,
    any_cells, any_pegs, behind_by_definition, open_by_definition,
)
from pegleap.boards import Board
from pegleap.errors import BadPegs, NoLeap
from pegleap.standings import class_of, leapt, open_leaps, walked

ALL_BOARDS = list(BOARDS) + any_cells(2, 24)
LONG_NUMBER = 10 ** 5000


def drawn_row(chance, cells, pegs):
    """A row of leaps that can be done, as far as it goes, and the standings behind each of them."""
    row = []
    standings = [list(pegs)]
    while open_by_definition(cells, standings[-1]):
        row.append(chance.choice(open_by_definition(cells, standings[-1])))
        standings.append(behind_by_definition(standings[-1], row[-1]))
    return row, standings


class OpenLeaps(unittest.TestCase):
    def test_a_line(self):
        board = Board(LINE)
        there = ((0, 0), (0, 2))
        back = ((0, 2), (0, 0))
        self.assertEqual(open_leaps(board, [(0, 0), (0, 1)]), [there])
        self.assertEqual(open_leaps(board, [(0, 1), (0, 2)]), [back])
        for pegs in ([], [(0, 0)], [(0, 1)], [(0, 2)], [(0, 0), (0, 2)], LINE):
            self.assertEqual(open_leaps(board, pegs), [])

    def test_four_onto_the_heart_and_none_from_it(self):
        pegs = [cell for cell in PLUS if cell != (2, 2)]
        self.assertEqual(
            open_leaps(Board(PLUS), pegs),
            [((0, 2), (2, 2)), ((2, 0), (2, 2)), ((2, 4), (2, 2)), ((4, 2), (2, 2))])

    def test_four_from_the_heart_rise(self):
        pegs = [(1, 2), (2, 1), (2, 2), (2, 3), (3, 2)]
        self.assertEqual(
            open_leaps(Board(PLUS), pegs),
            [((2, 2), (0, 2)), ((2, 2), (2, 0)), ((2, 2), (2, 4)), ((2, 2), (4, 2))])

    def test_the_empty_and_the_full_standing(self):
        for cells in ALL_BOARDS:
            self.assertEqual(open_leaps(Board(cells), []), [])
            self.assertEqual(open_leaps(Board(cells), list(cells)), [])

    def test_against_each_two_cells(self):
        self.assertEqual({len(cells) for cells in ALL_BOARDS}, set(range(1, 25)))
        for number, cells in enumerate(ALL_BOARDS):
            board = Board(cells)
            for pegs in any_pegs(number, cells, 12):
                with self.subTest(cells=cells, pegs=pegs):
                    self.assertEqual(open_leaps(board, pegs), open_by_definition(cells, pegs))

    def test_every_standing_of_a_square(self):
        board = Board(SQUARE)
        for pegs in all_sublists(SQUARE):
            self.assertEqual(open_leaps(board, pegs), open_by_definition(SQUARE, pegs))

    def test_kinds(self):
        told = open_leaps(Board(LONG_CORNER), [(0, 0), (0, 1), (1, 0)])
        self.assertEqual(told, [((0, 0), (0, 2)), ((0, 0), (2, 0))])
        self.assertIs(type(told), list)
        for leap in told:
            self.assertEqual([type(leap), type(leap[0]), type(leap[1])], [tuple, tuple, tuple])


class Leapt(unittest.TestCase):
    def test_along_a_row_and_a_column_both_ways(self):
        self.assertEqual(leapt(Board(LINE), [(0, 0), (0, 1)], ((0, 0), (0, 2))), [(0, 2)])
        self.assertEqual(leapt(Board(LINE), [(0, 1), (0, 2)], ((0, 2), (0, 0))), [(0, 0)])
        self.assertEqual(leapt(Board(COLUMN), [(0, 0), (1, 0)], ((0, 0), (2, 0))), [(2, 0)])
        self.assertEqual(leapt(Board(COLUMN), [(1, 0), (2, 0)], ((2, 0), (0, 0))), [(0, 0)])

    def test_all_others_stay(self):
        pegs = [cell for cell in FRAME if cell != (0, 2)]
        self.assertEqual(
            leapt(Board(FRAME), pegs, ((0, 0), (0, 2))), [cell for cell in FRAME if cell not in ((0, 0), (0, 1))])

    def test_each_open_leap(self):
        for number, cells in enumerate(ALL_BOARDS):
            board = Board(cells)
            for pegs in any_pegs(number, cells, 8):
                for leap in open_by_definition(cells, pegs):
                    with self.subTest(cells=cells, pegs=pegs, leap=leap):
                        told = leapt(board, pegs, leap)
                        self.assertEqual(told, behind_by_definition(pegs, leap))
                        self.assertIs(type(told), list)

    def test_each_two_cells_that_are_no_open_leap(self):
        board = Board(FRAME)
        field = [(r, c) for r in range(-1, 6) for c in range(-1, 6)]
        for pegs in (FRAME[1:], FRAME[::2], [(0, 0), (0, 1), (1, 0)]):
            can = open_by_definition(FRAME, pegs)
            for first in field:
                for second in field:
                    if (first, second) not in can:
                        with self.assertRaises(NoLeap) as caught:
                            leapt(board, pegs, (first, second))
                        self.assertEqual(caught.exception.at, 0)


# A board with a hole at (2, 1), a standing of it, and for each way that a leap can fail one that fails so.
HOLED_CELLS = [(r, c) for r in range(4) for c in range(5) if (r, c) != (2, 1)]
HOLED_PEGS = [(0, 0), (0, 1), (0, 2), (1, 1), (2, 0), (2, 3), (2, 4), (3, 0), (3, 2)]
FAILING = {
    "three apart": ((0, 0), (0, 3)),
    "three apart in a column": ((0, 0), (3, 0)),
    "one apart": ((0, 2), (0, 3)),
    "four apart": ((0, 0), (0, 4)),
    "askew": ((0, 0), (2, 2)),
    "askew, one row down": ((0, 0), (1, 2)),
    "askew, one column on": ((0, 0), (2, 1)),
    "off the board at its end": ((2, 3), (2, 5)),
    "off the field": ((2, 0), (2, -2)),
    "from off the board": ((0, 6), (0, 4)),
    "wholly off the board": ((20, 20), (20, 22)),
    "onto a hole": ((0, 1), (2, 1)),
    "alike": ((0, 0), (0, 0)),
    "alike and off the board": ((9, 9), (9, 9)),
    "no cell of the board between": ((2, 0), (2, 2)),
    "no peg on the first cell": ((1, 2), (1, 0)),
    "no peg between": ((3, 2), (3, 4)),
    "a peg on the second cell": ((0, 0), (0, 2)),
    "the wrong way round": ((2, 2), (2, 4)),
    "numbers too long to be written": ((LONG_NUMBER, 0), (LONG_NUMBER, 2)),
}


class Failing(unittest.TestCase):
    def assert_fails(self, cells, pegs, row, at):
        board = Board(cells)
        with self.assertRaises(NoLeap) as caught:
            walked(board, pegs, row)
        self.assertEqual(caught.exception.at, at)
        self.assertIs(type(caught.exception.at), int)

    def test_leapt_each_way(self):
        board = Board(HOLED_CELLS)
        for name, leap in FAILING.items():
            with self.subTest(name), self.assertRaises(NoLeap) as caught:
                leapt(board, HOLED_PEGS, leap)
            self.assertEqual(caught.exception.at, 0)

    def test_walked_each_way_at_the_start(self):
        for name, leap in FAILING.items():
            with self.subTest(name):
                self.assert_fails(HOLED_CELLS, HOLED_PEGS, [leap], 0)
                self.assert_fails(HOLED_CELLS, HOLED_PEGS, [leap, ((0, 2), (0, 4))], 0)

    def test_walked_at_a_drawn_place(self):
        chance = random.Random(3)
        for number, cells in enumerate(ALL_BOARDS):
            for pegs in any_pegs(number, cells, 4)[2:]:
                row, standings = drawn_row(chance, cells, pegs)
                at = chance.randrange(len(row) + 1)
                for leap in failing_leaps(chance, cells, standings[at]):
                    with self.subTest(cells=cells, pegs=pegs, row=row, at=at, leap=leap):
                        self.assert_fails(cells, pegs, row[:at] + [leap] + row[at:], at)

    def test_the_first_of_several_is_told(self):
        cells = [(0, c) for c in range(8)]
        pegs = [(0, 0), (0, 1), (0, 3)]
        good = [((0, 0), (0, 2)), ((0, 2), (0, 4))]
        bad = ((0, 7), (0, 5))
        self.assert_fails(cells, pegs, [bad, bad] + good, 0)
        self.assert_fails(cells, pegs, good[:1] + [bad] + good[1:] + [bad], 1)
        self.assert_fails(cells, pegs, good + [bad, bad], 2)

    def test_a_leap_that_only_the_standing_ahead_could_do(self):
        cells = [(0, c) for c in range(4)]
        self.assert_fails(cells, [(0, 0), (0, 1)], [((0, 0), (0, 2)), ((0, 0), (0, 2))], 1)

    def test_a_leap_that_only_a_later_standing_could_do(self):
        cells = [(0, c) for c in range(8)]
        pegs = [(0, 0), (0, 1), (0, 3)]
        self.assert_fails(cells, pegs, [((0, 2), (0, 4)), ((0, 0), (0, 2))], 0)

    def test_bad_pegs_ahead_of_no_leap(self):
        board = Board(LINE)
        for pegs in ([(0, 1), (0, 0)], [(0, 0), (0, 0)], [(1, 1)], [(LONG_NUMBER, 0)]):
            for leap in (((0, 0), (0, 1)), ((0, 0), (0, 2)), ((5, 5), (5, 5))):
                with self.assertRaises(BadPegs):
                    leapt(board, pegs, leap)
                with self.assertRaises(BadPegs):
                    walked(board, pegs, [leap])
            with self.assertRaises(BadPegs):
                walked(board, pegs, [])


def failing_leaps(chance, cells, pegs):
    """Some leaps of each kind that can't be done: none of the board, and those of the board that pegs forbid."""
    can = open_by_definition(cells, pegs)
    first = chance.choice(cells)
    second = chance.choice(cells)
    tried = [
        (first, (first[0], first[1] + 3)), (first, (first[0] - 3, first[1])), (first, (first[0] + 2, first[1] + 2)),
        (first, (first[0] + 2, first[1] - 1)), (first, first), ((8, 8), (8, 6)), (first, (first[0], -1)),
        (first, (first[0], first[1] + 2)), (first, (first[0] - 2, first[1])), (first, second), (second, first),
    ]
    return [leap for leap in tried if leap not in can]


class Walked(unittest.TestCase):
    def test_the_empty_row(self):
        for number, cells in enumerate(ALL_BOARDS):
            for pegs in any_pegs(number, cells, 3):
                self.assertEqual(walked(Board(cells), pegs, []), pegs)

    def test_several_leaps(self):
        cells = [(0, c) for c in range(8)]
        pegs = [(0, 0), (0, 1), (0, 3), (0, 5), (0, 7)]
        row = [((0, 0), (0, 2)), ((0, 2), (0, 4)), ((0, 4), (0, 6))]
        self.assertEqual(walked(Board(cells), pegs, row[:1]), [(0, 2), (0, 3), (0, 5), (0, 7)])
        self.assertEqual(walked(Board(cells), pegs, row[:2]), [(0, 4), (0, 5), (0, 7)])
        self.assertEqual(walked(Board(cells), pegs, row), [(0, 6), (0, 7)])

    def test_drawn_rows(self):
        chance = random.Random(4)
        longest = 0
        for number, cells in enumerate(ALL_BOARDS):
            board = Board(cells)
            for pegs in any_pegs(number, cells, 6):
                row, standings = drawn_row(chance, cells, pegs)
                longest = max(longest, len(row))
                for size in range(len(row) + 1):
                    self.assertEqual(walked(board, pegs, row[:size]), standings[size])
        self.assertGreater(longest, 10)

    def test_a_row_is_its_leaps_one_by_one(self):
        chance = random.Random(5)
        board = Board(BLOCK)
        row, standings = drawn_row(chance, BLOCK, BLOCK[1:])
        standing = BLOCK[1:]
        for leap in row:
            standing = leapt(board, standing, leap)
        self.assertEqual(standing, walked(board, BLOCK[1:], row))
        self.assertEqual(standing, standings[-1])


def class_by_definition(pegs):
    told = []
    for colour in (lambda r, c: (r + c) % 3, lambda r, c: (r - c + 9) % 3):
        count = {0: 0, 1: 0, 2: 0}
        for cell in pegs:
            count[colour(*cell)] += 1
        told += [(count[0] + count[1]) % 2, (count[1] + count[2]) % 2]
    return tuple(told)


class ClassOf(unittest.TestCase):
    def test_no_peg(self):
        for cells in ALL_BOARDS:
            self.assertEqual(class_of(Board(cells), []), (0, 0, 0, 0))

    def test_one_peg(self):
        board = Board(SQUARE)
        told = {cell: class_of(board, [cell]) for cell in SQUARE}
        self.assertEqual(told, {
            (0, 0): (1, 0, 1, 0), (0, 1): (1, 1, 0, 1), (0, 2): (0, 1, 1, 1),
            (1, 0): (1, 1, 1, 1), (1, 1): (0, 1, 1, 0), (1, 2): (1, 0, 0, 1),
            (2, 0): (0, 1, 0, 1), (2, 1): (1, 0, 1, 1), (2, 2): (1, 1, 1, 0)})

    def test_every_single_cell(self):
        for r in range(8):
            for c in range(8):
                self.assertEqual(class_of(Board([(r, c)]), [(r, c)]), class_by_definition([(r, c)]))

    def test_two_of_one_colour_are_even(self):
        self.assertEqual(class_of(Board([(0, 0), (3, 3)]), [(0, 0), (3, 3)]), (0, 0, 0, 0))

    def test_by_the_two_colourings(self):
        for number, cells in enumerate(ALL_BOARDS):
            board = Board(cells)
            for pegs in any_pegs(number, cells, 12):
                self.assertEqual(class_of(board, pegs), class_by_definition(pegs))

    def test_the_same_behind_each_leap(self):
        done = 0
        for number, cells in enumerate(ALL_BOARDS):
            board = Board(cells)
            for pegs in any_pegs(number, cells, 8):
                for leap in open_leaps(board, pegs):
                    done += 1
                    self.assertEqual(class_of(board, leapt(board, pegs, leap)), class_of(board, pegs))
        self.assertGreater(done, 1000)

    def test_kinds(self):
        for pegs in ([], CROSS[:1], CROSS[:5], CROSS):
            told = class_of(Board(CROSS), pegs)
            self.assertIs(type(told), tuple)
            self.assertEqual([type(number) for number in told], [int] * 4)

    def test_the_board_does_not_matter(self):
        pegs = [(0, 0), (0, 1)]
        self.assertEqual(class_of(Board(CORNER), pegs), class_of(Board(LINE), pegs))
        self.assertEqual(class_of(Board(ONE), [(0, 0)]), class_of(Board(SPRINKLED), [(0, 0)]))


if __name__ == "__main__":
    unittest.main()
