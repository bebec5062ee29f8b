import itertools
import unittest

from drawn import (
    CORNER, FAR_LINE, FAR_ROW, FRAME, HOLED, LINE, LONG_CORNER, OBLONG, ONE, ROUND, SEARCHED, SMALL_CROSS, SQUARE, TINY,
    all_sublists, any_cells, any_pegs, behind_by_definition, open_by_definition, rows_by_end,
)
from pegleap.boards import Board, turned
from pegleap.search import answer, holds, reached, row_count
from pegleap.standings import class_of, walked
from pegleap.weights import fair, weight

# From 13 cells on a board lies somewhat beyond what the document bounds, and nothing is refused for it.
BOARDS = list(SEARCHED) + any_cells(10, 14)
BIG = (OBLONG, ROUND)


def found_leap_by_leap(cells, pegs):
    found = {tuple(pegs)}
    waiting = [list(pegs)]
    while waiting:
        standing = waiting.pop()
        for leap in open_by_definition(cells, standing):
            behind = behind_by_definition(standing, leap)
            if tuple(behind) not in found:
                found.add(tuple(behind))
                waiting.append(behind)
    return found


def starts(seed, cells):
    """Standings to start from; of the boards with many rows not all of them."""
    return any_pegs(seed, cells, 6)[::3 if cells in BIG else 1]


class Reached(unittest.TestCase):
    def test_nothing_but_itself(self):
        for cells in BOARDS:
            for pegs in ([], list(cells), cells[:1], cells[-1:]):
                self.assertEqual(reached(Board(cells), pegs), [pegs])

    def test_one_leap(self):
        self.assertEqual(reached(Board(LINE), [(0, 0), (0, 1)]), [[(0, 0), (0, 1)], [(0, 2)]])

    def test_more_pegs_first_and_of_as_many_rising(self):
        self.assertEqual(
            reached(Board(LONG_CORNER), [(0, 0), (0, 1), (1, 0)]),
            [[(0, 0), (0, 1), (1, 0)], [(0, 1), (2, 0)], [(0, 2), (1, 0)]])
        self.assertEqual(
            reached(Board(FAR_LINE), [(7, 3), (7, 4), (7, 6)]),
            [[(7, 3), (7, 4), (7, 6)], [(7, 5), (7, 6)], [(7, 4)], [(7, 7)]])

    def test_found_leap_by_leap(self):
        most = 0
        for number, cells in enumerate(BOARDS):
            board = Board(cells)
            for pegs in any_pegs(number, cells, 8):
                expected = [list(standing) for standing in found_leap_by_leap(cells, pegs)]
                expected = sorted(sorted(expected), key=len, reverse=True)
                most = max(most, len(expected))
                with self.subTest(cells=cells, pegs=pegs):
                    self.assertEqual(reached(board, pegs), expected)
        self.assertGreater(most, 100)

    def test_every_standing_of_a_square(self):
        board = Board(SQUARE)
        for pegs in all_sublists(SQUARE):
            told = reached(board, pegs)
            self.assertEqual(sorted(tuple(standing) for standing in told), sorted(found_leap_by_leap(SQUARE, pegs)))

    def test_each_has_the_same_class(self):
        board = Board(OBLONG)
        told = reached(board, OBLONG[1:])
        self.assertEqual({class_of(board, standing) for standing in told}, {class_of(board, OBLONG[1:])})

    def test_kinds(self):
        told = reached(Board(OBLONG), OBLONG[1:])
        self.assertIs(type(told), list)
        for standing in told:
            self.assertIs(type(standing), list)
            self.assertEqual({type(cell) for cell in standing}, {tuple})

    def test_lists_told_may_be_changed(self):
        board = Board(FRAME)
        pegs = FRAME[1:]
        told = reached(board, pegs)
        kept = [list(standing) for standing in told]
        for standing in told:
            standing.append("mark")
            self.assertEqual(sum("mark" in other for other in told), told.index(standing) + 1)
        told.clear()
        self.assertEqual(reached(board, pegs), kept)
        self.assertEqual(pegs, FRAME[1:])
        self.assertEqual(board.cells, FRAME)


class Answer(unittest.TestCase):
    def assert_never(self, cells, pegs, others):
        told = answer(Board(cells), pegs, others)
        self.assertIs(type(told), tuple)
        self.assertEqual(len(told), 2)
        self.assertEqual(told[0], "never")
        self.assert_paper(told[1])
        self.assertIs(holds(Board(cells), pegs, others, told[1]), True)

    def assert_paper(self, paper):
        self.assertIs(type(paper), tuple)
        self.assertIn(paper[0], ("class", "weights", "closed"))
        self.assertEqual(len(paper), 1 if paper[0] == "class" else 2)
        for told in paper[1:]:
            self.assertIs(type(told), list)
            self.assertEqual({type(one) for one in told}, {int if paper[0] == "weights" else list})

    def assert_leaps(self, cells, pegs, others, row):
        told = answer(Board(cells), pegs, others)
        self.assertEqual(told, ("leaps", row))
        self.assertIs(type(told), tuple)
        self.assertIs(type(told[1]), list)
        self.assertEqual(walked(Board(cells), pegs, told[1]), others)

    def test_two_that_are_alike(self):
        for number, cells in enumerate(BOARDS):
            for pegs in any_pegs(number, cells, 3):
                self.assert_leaps(cells, pegs, list(pegs), [])

    def test_one_list_handed_in_twice(self):
        pegs = [(0, 0), (0, 1)]
        self.assertEqual(answer(Board(LINE), pegs, pegs), ("leaps", []))

    def test_a_line(self):
        self.assert_leaps(LINE, [(0, 0), (0, 1)], [(0, 2)], [((0, 0), (0, 2))])
        self.assert_never(LINE, [(0, 2)], [(0, 0), (0, 1)])
        self.assert_never(LINE, [(0, 0), (0, 1)], [(0, 0)])
        self.assert_never(LINE, [], [(0, 0)])
        self.assert_never(LINE, [(0, 0)], [])
        self.assert_never(LINE, LINE, [])

    def test_of_several_rows_the_first(self):
        pegs = [cell for cell in FRAME if cell not in ((0, 2), (3, 2))]
        others = [(0, 2), (0, 3), (1, 0), (1, 3), (2, 0), (2, 3), (3, 2), (3, 3)]
        row = [((0, 0), (0, 2)), ((3, 0), (3, 2))]
        self.assert_leaps(FRAME, pegs, others, row)
        self.assertEqual(walked(Board(FRAME), pegs, row[::-1]), others)

    def test_the_first_row_may_begin_otherwise_than_with_the_least_open_leap(self):
        pegs = [(7, 3), (7, 4), (7, 6), (7, 7)]
        self.assert_leaps(FAR_LINE, pegs, [(7, 3), (7, 4), (7, 5)], [((7, 7), (7, 5))])

    def test_first_rows_by_walking_all_rows(self):
        choices = 0
        for number, cells in enumerate(BOARDS):
            for pegs in starts(number, cells):
                for others, rows in rows_by_end(cells, pegs).items():
                    choices += len(rows) > 1
                    with self.subTest(cells=cells, pegs=pegs, others=others):
                        self.assert_leaps(cells, pegs, list(others), rows[0])
        self.assertGreater(choices, 200)

    def test_any_two_standings_of_small_boards(self):
        for cells in TINY:
            for pegs in all_sublists(cells):
                come_to = rows_by_end(cells, pegs)
                for others in all_sublists(cells):
                    if tuple(others) in come_to:
                        self.assert_leaps(cells, pegs, others, come_to[tuple(others)][0])
                    else:
                        self.assert_never(cells, pegs, others)

    def test_what_the_class_does_not_rule_out(self):
        # Of these the classes are alike, and yet no row leads there.
        never = 0
        for cells in (FRAME, HOLED, SQUARE, FAR_ROW, OBLONG):
            board = Board(cells)
            pegs = cells[1:]
            come_to = found_leap_by_leap(cells, pegs)
            for others in itertools.islice(all_sublists(cells), 0, None, 7):
                if class_of(board, others) == class_of(board, pegs) and tuple(others) not in come_to:
                    never += 1
                    self.assert_never(cells, pegs, others)
        self.assertGreater(never, 30)

    def test_more_pegs_are_never_come_to(self):
        for cells in (LINE, FRAME, OBLONG):
            self.assert_never(cells, cells[1:], list(cells))
            self.assert_never(cells, cells[2:], cells[1:])
            self.assert_never(cells, [], cells[:3])

    def test_lists_told_may_be_changed(self):
        board = Board(FRAME)
        asked = ((FRAME[1:], FRAME[:1]), (FRAME[1:], FRAME[1:]), (FRAME[3:], FRAME[:9]))
        asked += ((FRAME[1:], reached(board, FRAME[1:])[-1]),)
        for pegs, others in asked:
            told = answer(board, pegs, others)
            kept = repr(told)
            spoil(told)
            self.assertEqual(repr(answer(board, pegs, others)), kept)


def spoil(told):
    for one in told:
        if isinstance(one, (list, tuple)):
            spoil(one)
    if isinstance(told, list):
        told.append("mark")


class Holds(unittest.TestCase):
    def assert_holds(self, cells, pegs, others, paper):
        self.assertIs(holds(Board(cells), pegs, others, paper), True)

    def assert_does_not(self, cells, pegs, others, paper):
        self.assertIs(holds(Board(cells), pegs, others, paper), False)

    def test_class(self):
        self.assert_holds(LINE, [(0, 0)], [(0, 1)], ("class",))
        self.assert_holds(LINE, [], [(0, 1)], ("class",))
        self.assert_does_not(LINE, [(0, 0), (0, 1)], [(0, 2)], ("class",))
        self.assert_does_not(LINE, [(0, 2)], [(0, 0), (0, 1)], ("class",))
        self.assert_does_not(LINE, [(0, 2)], [(0, 2)], ("class",))

    def test_class_for_any_two_standings(self):
        for cells in TINY:
            board = Board(cells)
            for pegs, others in itertools.product(all_sublists(cells), repeat=2):
                unlike = class_of(board, pegs) != class_of(board, others)
                self.assertIs(holds(board, pegs, others, ("class",)), unlike)

    def test_classes_that_differ_in_one_number_alone(self):
        seen = set()
        board = Board(SQUARE)
        for pegs in all_sublists(SQUARE):
            told = class_of(board, pegs)
            if sum(told) == 1:
                seen.add(told)
                self.assert_holds(SQUARE, pegs, [], ("class",))
                self.assert_holds(SQUARE, [], pegs, ("class",))
        self.assertEqual(len(seen), 4)

    def test_weights_less_alike_and_more(self):
        self.assert_holds(LINE, [(0, 2)], [(0, 0), (0, 1)], ("weights", [1, 1, 1]))
        self.assert_does_not(LINE, [(0, 0), (0, 1)], [(0, 2)], ("weights", [1, 1, 1]))
        self.assert_does_not(LINE, [(0, 0)], [(0, 2)], ("weights", [1, 1, 1]))
        self.assert_does_not(LINE, [(0, 0)], [(0, 0)], ("weights", [1, 1, 1]))
        self.assert_holds(LINE, [(0, 0)], [(0, 1)], ("weights", [1, 2, 2]))
        self.assert_does_not(LINE, [(0, 1)], [(0, 0)], ("weights", [1, 2, 2]))
        self.assert_holds(LINE, [], [(0, 1)], ("weights", [0, 1000, 0]))
        self.assert_holds(LINE, [(0, 0)], [], ("weights", [-1000, 1000, 0]))

    def test_weights_that_are_not_fair(self):
        self.assert_does_not(LINE, [(0, 0), (0, 1)], [(0, 2)], ("weights", [0, 0, 1]))
        self.assert_does_not(LINE, [(0, 0)], [(0, 2)], ("weights", [1, 1, 3]))
        self.assert_does_not(LINE, [(0, 0)], [], ("weights", [-1, -1, -1]))
        self.assert_holds(CORNER, [(0, 0)], [], ("weights", [-1, -1, -1]))

    def test_weights_that_are_none(self):
        good = [1, 1, 1]
        self.assert_holds(LINE, [], [(0, 0)], ("weights", good))
        for bad in ([], good[1:], good + [1], [1001, 1, 1000], [1, 1001, 1], [1, 1, -1001], [10 ** 5000, 1, 1]):
            self.assert_does_not(LINE, [], [(0, 0)], ("weights", bad))
            self.assert_does_not(LINE, [(0, 0), (0, 1)], [(0, 2)], ("weights", bad))
            self.assert_does_not(LINE, [(0, 1)], [(0, 0), (0, 1), (0, 2)], ("weights", bad))

    def test_weights_for_any_two_standings(self):
        for cells in (LINE, LONG_CORNER, SMALL_CROSS):
            board = Board(cells)
            for weights in itertools.product((-1, 0, 1), repeat=len(cells)):
                weights = list(weights)
                for pegs, others in itertools.product(all_sublists(cells)[::5], repeat=2):
                    expected = fair(board, weights) and weight(board, weights, pegs) < weight(board, weights, others)
                    self.assertIs(holds(board, pegs, others, ("weights", weights)), expected)

    def test_closed(self):
        pegs = [(0, 0), (0, 1)]
        self.assert_holds(LINE, pegs, [(0, 0)], ("closed", [pegs, [(0, 2)]]))
        self.assert_holds(LINE, pegs, [(0, 0)], ("closed", [[(0, 2)], pegs]))
        self.assert_holds(LINE, [(0, 2)], [(0, 0), (0, 1)], ("closed", [[(0, 2)]]))
        self.assert_holds(LINE, [], [(0, 2)], ("closed", [[]]))
        self.assert_holds(ONE, [], [(0, 0)], ("closed", [[]]))

    def test_closed_with_more_than_need_be(self):
        pegs = [(0, 0), (0, 1)]
        self.assert_holds(LINE, pegs, [(0, 0)], ("closed", [pegs, [], [(0, 2)], LINE, [(0, 1)]]))
        self.assert_does_not(LINE, [], [(0, 0)], ("closed", [[], pegs]))
        self.assert_holds(LINE, [], [(0, 0)], ("closed", [[], pegs, [(0, 2)]]))

    def test_closed_without_the_first_one(self):
        self.assert_does_not(LINE, [], [(0, 0)], ("closed", []))
        self.assert_does_not(LINE, [(0, 0), (0, 1)], [(0, 0)], ("closed", [[(0, 2)]]))
        self.assert_does_not(LINE, [(0, 1)], [(0, 0)], ("closed", [[], [(0, 2)]]))

    def test_closed_with_the_one_asked_for(self):
        pegs = [(0, 0), (0, 1)]
        self.assert_does_not(LINE, pegs, [(0, 2)], ("closed", [pegs, [(0, 2)]]))
        self.assert_does_not(LINE, pegs, [(0, 0)], ("closed", [pegs, [(0, 2)], [(0, 0)]]))
        self.assert_does_not(LINE, pegs, list(pegs), ("closed", [pegs, [(0, 2)]]))

    def test_not_closed(self):
        pegs = [(0, 0), (0, 1)]
        self.assert_does_not(LINE, pegs, [(0, 2)], ("closed", [pegs]))
        self.assert_does_not(LINE, pegs, [(0, 0)], ("closed", [pegs]))
        self.assert_does_not(LINE, pegs, [(0, 0)], ("closed", [pegs, [(0, 2)], [(0, 1), (0, 2)]]))

    def test_not_closed_at_each_place(self):
        for cells in (FRAME, HOLED, ROUND):
            board = Board(cells)
            pegs = max(any_pegs(11, cells, 0), key=lambda pegs: len(reached(board, pegs)))
            told = reached(board, pegs)
            self.assertGreater(len(told), 5)
            self.assert_holds(cells, pegs, list(cells), ("closed", told))
            self.assert_holds(cells, pegs, list(cells), ("closed", told[::-1]))
            for k in range(len(told)):
                self.assert_does_not(cells, pegs, list(cells), ("closed", told[:k] + told[k + 1:]))

    def test_closed_with_a_standing_that_is_none(self):
        pegs = [(0, 0), (0, 1)]
        good = [pegs, [(0, 2)]]
        self.assert_holds(LINE, pegs, [(0, 0)], ("closed", good))
        for bad in ([(0, 1), (0, 0)], [(0, 2), (0, 2)], [(1, 0)], [(0, 0), (0, 3)], [(-1, 0)], [(10 ** 5000, 0)]):
            for k in range(len(good) + 1):
                self.assert_does_not(LINE, pegs, [(0, 0)], ("closed", good[:k] + [bad] + good[k:]))
            self.assert_does_not(LINE, [(0, 2)], [(0, 0)], ("closed", [[(0, 2)], bad]))

    def test_closed_that_tells_one_twice(self):
        pegs = [(0, 0), (0, 1)]
        self.assert_holds(LINE, pegs, [(0, 0)], ("closed", [pegs, [(0, 2)], list(pegs)]))
        self.assert_holds(LINE, pegs, [(0, 0)], ("closed", [pegs, pegs, [(0, 2)], [(0, 2)]]))
        self.assert_does_not(LINE, pegs, [(0, 0)], ("closed", [pegs, list(pegs)]))
        self.assert_does_not(LINE, pegs, [(0, 2)], ("closed", [pegs, [(0, 2)], [(0, 2)]]))

    def test_no_paper_holds_where_a_row_leads_there(self):
        for cells in (LONG_CORNER, SMALL_CROSS, FAR_LINE):
            board = Board(cells)
            everything = all_sublists(cells)
            for pegs in everything:
                told = reached(board, pegs)
                for others in told:
                    without = [standing for standing in everything if standing != others]
                    papers = [("class",), ("closed", told), ("closed", without)]
                    papers += [("weights", list(weights)) for weights in itertools.product((0, 1), repeat=len(cells))]
                    for paper in papers:
                        self.assertIs(holds(board, pegs, others, paper), False)

    def test_which_form_is_looked_at(self):
        # One form may hold where another one doesn't.
        pegs = [(0, 2)]
        others = [(0, 0), (0, 1)]
        self.assert_does_not(LINE, pegs, others, ("class",))
        self.assert_holds(LINE, pegs, others, ("weights", [1, 1, 1]))
        self.assert_holds(LINE, pegs, others, ("closed", [pegs]))
        self.assert_holds(LINE, others, [(0, 0)], ("class",))
        self.assert_does_not(LINE, others, [(0, 0)], ("weights", [1, 1, 1]))
        self.assert_does_not(LINE, others, [(0, 0)], ("closed", [others]))


class RowCount(unittest.TestCase):
    def test_two_that_are_alike(self):
        for number, cells in enumerate(BOARDS):
            for pegs in any_pegs(number, cells, 3):
                self.assertEqual(row_count(Board(cells), pegs, list(pegs)), 1)

    def test_none(self):
        board = Board(LINE)
        self.assertEqual(row_count(board, [(0, 2)], [(0, 0), (0, 1)]), 0)
        self.assertEqual(row_count(board, [(0, 0), (0, 1)], [(0, 0)]), 0)
        self.assertEqual(row_count(board, [(0, 0)], [(0, 1)]), 0)
        self.assertEqual(row_count(board, LINE, []), 0)
        self.assertEqual(row_count(board, [], LINE), 0)

    def test_one_and_two(self):
        self.assertEqual(row_count(Board(LINE), [(0, 0), (0, 1)], [(0, 2)]), 1)
        pegs = [cell for cell in FRAME if cell not in ((0, 2), (3, 2))]
        others = [(0, 2), (0, 3), (1, 0), (1, 3), (2, 0), (2, 3), (3, 2), (3, 3)]
        self.assertEqual(row_count(Board(FRAME), pegs, others), 2)

    def test_by_walking_all_rows(self):
        most = 0
        for number, cells in enumerate(BOARDS):
            board = Board(cells)
            for pegs in starts(number, cells):
                for others, rows in rows_by_end(cells, pegs).items():
                    told = row_count(board, pegs, list(others))
                    most = max(most, told)
                    self.assertEqual(told, len(rows))
                    self.assertIs(type(told), int)
        self.assertGreater(most, 20)

    def test_any_two_standings_of_small_boards(self):
        for cells in TINY:
            board = Board(cells)
            for pegs in all_sublists(cells):
                rows = rows_by_end(cells, pegs)
                for others in all_sublists(cells):
                    self.assertEqual(row_count(board, pegs, others), len(rows.get(tuple(others), [])))

    def test_as_many_from_the_other_turned_to_the_one_turned(self):
        for number, cells in enumerate(BOARDS):
            board = Board(cells)
            for pegs in starts(number, cells):
                asked = reached(board, pegs)[-40:] + any_pegs(number, cells, 3)[-5:]
                for others in asked:
                    there = row_count(board, pegs, others)
                    back = row_count(board, turned(board, others), turned(board, pegs))
                    self.assertEqual(there, back)

    def test_a_row_leads_back_between_the_turned_ones(self):
        for number, cells in enumerate(BOARDS):
            board = Board(cells)
            for pegs in starts(number, cells):
                for others in reached(board, pegs)[-20:]:
                    row = answer(board, pegs, others)[1]
                    back = walked(board, turned(board, others), row[::-1])
                    self.assertEqual(back, turned(board, pegs))


if __name__ == "__main__":
    unittest.main()
