import itertools
import unittest

from drawn import (
    BLOCK, BOARDS, COLUMN, CORNER, CROSS, CROSS_WITH_HEART, FAR_CORNER, FRAME, LINE, LONG_CORNER, ONE, PAIRS,
    PLUS, SPRINKLED, SQUARE, all_sublists, any_cells, drawn, leaps_by_definition,
)
from pegleap.boards import Board, leaps, turned
from pegleap.errors import BadBoard, BadPegs


def both_ways(*pairs):
    return sorted(list(pairs) + [(second, first) for first, second in pairs])


class TakenBoards(unittest.TestCase):
    def assert_taken(self, cells):
        told = Board(list(cells)).cells
        self.assertIs(type(told), list)
        self.assertEqual(told, cells)
        for cell in told:
            self.assertIs(type(cell), tuple)

    def test_every_single_cell(self):
        for r in range(8):
            for c in range(8):
                self.assert_taken([(r, c)])

    def test_several_cells(self):
        for cells in BOARDS:
            self.assert_taken(cells)

    def test_every_count_up_to_24(self):
        self.assertEqual(len(BLOCK), 24)
        for size in range(1, 25):
            self.assert_taken(BLOCK[:size])

    def test_the_four_outermost_cells(self):
        self.assert_taken([(0, 0), (0, 7), (7, 0), (7, 7)])


class RefusedBoards(unittest.TestCase):
    def assert_refused(self, cells):
        handed = list(cells)
        with self.subTest(cells=cells), self.assertRaises(BadBoard):
            Board(handed)
        self.assertEqual(handed, cells)

    def test_no_cell(self):
        self.assert_refused([])

    def test_more_than_24_cells(self):
        grid = [(r, c) for r in range(8) for c in range(8)]
        for size in (25, 26, 33, 64):
            self.assert_refused(grid[:size])

    def test_a_cell_twice(self):
        self.assert_refused([(3, 3), (3, 3)])
        for k in range(len(SQUARE)):
            self.assert_refused(SQUARE[:k] + [SQUARE[k]] + SQUARE[k:])
            self.assert_refused(SQUARE + [SQUARE[k]])
            self.assert_refused([SQUARE[k]] + SQUARE)

    def test_two_cells_exchanged(self):
        for k, m in itertools.combinations(range(len(SQUARE)), 2):
            cells = list(SQUARE)
            cells[k], cells[m] = cells[m], cells[k]
            self.assert_refused(cells)

    def test_falling_cells(self):
        self.assert_refused(SQUARE[::-1])

    def test_rising_by_column_first_is_not_rising(self):
        self.assert_refused([(0, 0), (1, 0), (0, 1), (1, 1)])

    def test_a_lone_cell_off_the_grid(self):
        for far in (-1000, -2, -1, 8, 9, 1000):
            for near in (0, 3, 7, far):
                self.assert_refused([(far, near)])
                self.assert_refused([(near, far)])

    def test_numbers_too_long_to_be_written(self):
        for far in (10 ** 5000, -10 ** 5000):
            self.assert_refused([(far, 0)])
            self.assert_refused([(0, far)])
            self.assert_refused([(0, 0), (0, abs(far))])

    def test_one_cell_off_the_grid_among_rising_ones(self):
        good = [(1, 0), (1, 7), (4, 0), (4, 4), (4, 7), (6, 0), (6, 7)]
        for bad in (-2, -1, 8, 9):
            for r in range(8):
                self.assert_refused(sorted(good + [(r, bad)]))
                self.assert_refused(sorted(good + [(bad, r)]))

    def test_one_cell_off_the_grid_at_each_place(self):
        good = [(1, 1), (3, 3), (5, 5)]
        for bad in ((-1, 3), (8, 3), (3, -1), (3, 8), (-1, -1), (8, 8), (-1, 8), (8, -1)):
            for k in range(len(good) + 1):
                self.assert_refused(good[:k] + [bad] + good[k:])


class BoardsKeepApart(unittest.TestCase):
    def test_the_list_handed_in_stays(self):
        for cells in BOARDS:
            handed = list(cells)
            Board(handed)
            self.assertEqual(handed, cells)

    def test_a_later_change_of_it_is_not_seen(self):
        handed = list(LINE)
        board = Board(handed)
        handed.append((7, 7))
        handed[0] = (5, 5)
        self.assertEqual(board.cells, LINE)
        handed.clear()
        self.assertEqual(board.cells, LINE)
        self.assertEqual(leaps(board), both_ways(((0, 0), (0, 2))))
        self.assertEqual(turned(board, []), LINE)

    def test_two_boards_of_one_list(self):
        handed = list(LINE)
        one = Board(handed)
        handed[2] = (1, 0)
        other = Board(handed)
        self.assertEqual(one.cells, LINE)
        self.assertEqual(other.cells, CORNER)
        self.assertEqual(leaps(one), both_ways(((0, 0), (0, 2))))
        self.assertEqual(leaps(other), [])

    def test_a_board_made_of_anothers_cells_has_its_own(self):
        board = Board(LINE)
        self.assertIsNot(Board(board.cells).cells, board.cells)


class Leaps(unittest.TestCase):
    def test_no_leap_at_all(self):
        for cells in (ONE, CORNER, SPRINKLED, PAIRS, [(0, 0), (0, 2)], [(0, 6), (0, 7), (1, 0)], [(6, 0), (7, 0)]):
            self.assertEqual(leaps(Board(cells)), [])

    def test_a_gap_between_is_not_leapt_over(self):
        self.assertEqual(leaps(Board(drawn("o.o", "...", "o.o"))), [])

    def test_no_leap_askew(self):
        self.assertEqual(leaps(Board(drawn("o.o", ".o.", "o.o"))), [])

    def test_along_a_row_both_ways(self):
        self.assertEqual(leaps(Board(LINE)), [((0, 0), (0, 2)), ((0, 2), (0, 0))])

    def test_along_a_column_both_ways(self):
        self.assertEqual(leaps(Board(COLUMN)), [((0, 0), (2, 0)), ((2, 0), (0, 0))])

    def test_a_corner(self):
        self.assertEqual(
            leaps(Board(LONG_CORNER)),
            [((0, 0), (0, 2)), ((0, 0), (2, 0)), ((0, 2), (0, 0)), ((2, 0), (0, 0))],
        )

    def test_the_far_corner(self):
        self.assertEqual(
            leaps(Board(FAR_CORNER)),
            [((5, 7), (7, 7)), ((7, 5), (7, 7)), ((7, 7), (5, 7)), ((7, 7), (7, 5))],
        )

    def test_four_ways_from_one_cell_rise(self):
        from_heart = [leap for leap in leaps(Board(PLUS)) if leap[0] == (2, 2)]
        self.assertEqual(
            from_heart, [((2, 2), (0, 2)), ((2, 2), (2, 0)), ((2, 2), (2, 4)), ((2, 2), (4, 2))])

    def test_a_frame(self):
        self.assertEqual(leaps(Board(FRAME)), both_ways(
            ((0, 0), (0, 2)), ((0, 1), (0, 3)), ((3, 0), (3, 2)), ((3, 1), (3, 3)),
            ((0, 0), (2, 0)), ((1, 0), (3, 0)), ((0, 3), (2, 3)), ((1, 3), (3, 3))))

    def test_a_cross_with_gaps(self):
        self.assertEqual(len(CROSS), 24)
        self.assertEqual(leaps(Board(CROSS)), both_ways(
            ((0, 2), (0, 4)), ((2, 0), (2, 2)), ((2, 4), (2, 6)),
            ((4, 0), (4, 2)), ((4, 4), (4, 6)), ((6, 2), (6, 4)),
            ((0, 2), (2, 2)), ((0, 4), (2, 4)), ((2, 0), (4, 0)),
            ((2, 6), (4, 6)), ((4, 2), (6, 2)), ((4, 4), (6, 4))))

    def test_a_cross_with_a_heart(self):
        told = leaps(Board(CROSS_WITH_HEART))
        self.assertEqual(told, leaps_by_definition(CROSS_WITH_HEART))
        self.assertIn(((3, 3), (1, 3)), told)
        self.assertNotIn(((3, 0), (3, 2)), told)

    def test_no_leap_round_the_edge(self):
        self.assertEqual(leaps(Board([(0, 6), (0, 7), (1, 0), (1, 1)])), [])
        self.assertEqual(leaps(Board([(0, 0), (0, 1), (0, 7)])), [])

    def test_every_board_of_the_tests_by_definition(self):
        for cells in BOARDS:
            with self.subTest(cells=cells):
                self.assertEqual(leaps(Board(cells)), leaps_by_definition(cells))

    def test_boards_of_any_cells_by_definition(self):
        for cells in any_cells(1, 24):
            with self.subTest(cells=cells):
                self.assertEqual(leaps(Board(cells)), leaps_by_definition(cells))

    def test_every_board_within_a_square_by_definition(self):
        for cells in all_sublists(SQUARE)[1:]:
            self.assertEqual(leaps(Board(cells)), leaps_by_definition(cells))

    def test_kinds(self):
        told = leaps(Board(FRAME))
        self.assertIs(type(told), list)
        for leap in told:
            self.assertIs(type(leap), tuple)
            self.assertEqual(len(leap), 2)
            for cell in leap:
                self.assertIs(type(cell), tuple)
                self.assertEqual([type(number) for number in cell], [int, int])

    def test_what_is_told_is_the_askers_own(self):
        for cells in (FRAME, ONE):
            board = Board(cells)
            expected = leaps_by_definition(cells)
            told = leaps(board)
            self.assertIsNot(told, leaps(board))
            told.append("mark")
            told.reverse()
            self.assertEqual(leaps(board), expected)
            told.clear()
            self.assertEqual(leaps(board), expected)
            self.assertEqual(board.cells, cells)

    def test_one_boards_answer_does_not_hang_on_anothers(self):
        boards = [Board(cells) for cells in BOARDS]
        first = [leaps(board) for board in boards]
        again = [leaps(board) for board in reversed(boards)]
        self.assertEqual(first, again[::-1])


class Turned(unittest.TestCase):
    def test_the_empty_standing(self):
        for cells in BOARDS:
            self.assertEqual(turned(Board(cells), []), cells)

    def test_the_full_standing(self):
        for cells in BOARDS:
            self.assertEqual(turned(Board(cells), list(cells)), [])

    def test_others(self):
        board = Board(LONG_CORNER)
        self.assertEqual(turned(board, [(0, 0)]), [(0, 1), (0, 2), (1, 0), (2, 0)])
        self.assertEqual(turned(board, [(2, 0)]), [(0, 0), (0, 1), (0, 2), (1, 0)])
        self.assertEqual(turned(board, [(0, 1), (1, 0)]), [(0, 0), (0, 2), (2, 0)])

    def test_every_standing_of_a_square(self):
        board = Board(SQUARE)
        for pegs in all_sublists(SQUARE):
            told = turned(board, pegs)
            self.assertEqual(told, sorted(set(SQUARE) - set(pegs)))
            self.assertEqual(turned(board, told), pegs)

    def test_of_24_cells(self):
        board = Board(CROSS)
        for pegs in (CROSS[::2], CROSS[1::3], CROSS[:1], CROSS[-1:], CROSS[5:20]):
            told = turned(board, pegs)
            self.assertEqual(told, sorted(set(CROSS) - set(pegs)))
            self.assertEqual(turned(board, told), pegs)

    def test_kinds(self):
        for pegs in ([], list(SQUARE), SQUARE[2:4]):
            told = turned(Board(SQUARE), pegs)
            self.assertIs(type(told), list)
            for cell in told:
                self.assertIs(type(cell), tuple)

    def test_the_standing_handed_in_stays_and_is_not_told(self):
        board = Board(SQUARE)
        for pegs in ([], list(SQUARE), SQUARE[2:5]):
            handed = list(pegs)
            told = turned(board, handed)
            self.assertIsNot(told, handed)
            told.append("mark")
            self.assertEqual(handed, pegs)

    def test_what_is_told_is_the_askers_own(self):
        board = Board(SQUARE)
        for pegs in ([], list(SQUARE), SQUARE[2:5]):
            told = turned(board, pegs)
            expected = list(told)
            self.assertIsNot(told, board.cells)
            told.append("mark")
            told.reverse()
            self.assertEqual(turned(board, pegs), expected)
            self.assertEqual(board.cells, SQUARE)
            self.assertEqual(leaps(board), leaps_by_definition(SQUARE))

    def test_a_later_change_of_the_standing_is_not_seen(self):
        board = Board(SQUARE)
        handed = SQUARE[:3]
        told = turned(board, handed)
        handed.clear()
        self.assertEqual(told, SQUARE[3:])
        self.assertEqual(turned(board, handed), SQUARE)

    def test_the_boards_own_cells_handed_in(self):
        board = Board(SQUARE)
        self.assertEqual(turned(board, board.cells), [])
        self.assertEqual(board.cells, SQUARE)


class RefusedStandings(unittest.TestCase):
    def assert_refused(self, cells, pegs):
        board = Board(cells)
        handed = list(pegs)
        with self.subTest(cells=cells, pegs=pegs), self.assertRaises(BadPegs):
            turned(board, handed)
        self.assertEqual(handed, pegs)
        self.assertEqual(board.cells, cells)

    def test_a_cell_twice(self):
        for k in range(len(FRAME)):
            self.assert_refused(FRAME, [FRAME[k], FRAME[k]])
            self.assert_refused(FRAME, FRAME[:k] + [FRAME[k]] + FRAME[k:])
            self.assert_refused(FRAME, FRAME + [FRAME[k]])

    def test_two_exchanged(self):
        for k, m in itertools.combinations(range(len(FRAME)), 2):
            pegs = list(FRAME)
            pegs[k], pegs[m] = pegs[m], pegs[k]
            self.assert_refused(FRAME, pegs)
            self.assert_refused(FRAME, [FRAME[m], FRAME[k]])

    def test_no_cell_of_the_board(self):
        for other in ((1, 1), (1, 2), (2, 1), (2, 2), (0, 4), (4, 0), (7, 7)):
            self.assert_refused(FRAME, [other])
            self.assert_refused(FRAME, sorted(FRAME + [other]))
            self.assert_refused(FRAME, sorted(FRAME[2:5] + [other]))

    def test_no_cell_at_all(self):
        for other in ((-1, 0), (0, -1), (8, 0), (0, 8), (-1, -1), (8, 8)):
            self.assert_refused(FRAME, [other])
            self.assert_refused(FRAME, sorted(FRAME[2:5] + [other]))

    def test_numbers_too_long_to_be_written(self):
        for far in (10 ** 5000, -10 ** 5000):
            self.assert_refused(FRAME, [(far, 0)])
            self.assert_refused(FRAME, [(0, far)])

    def test_no_cell_at_each_place(self):
        pegs = [(0, 1), (1, 0), (3, 3)]
        for k in range(len(pegs) + 1):
            self.assert_refused(FRAME, pegs[:k] + [(2, 2)] + pegs[k:])

    def test_more_pegs_than_cells(self):
        self.assert_refused(ONE, LINE)
        self.assert_refused(LINE, SQUARE)

    def test_a_standing_of_another_board(self):
        board = Board(LINE)
        self.assertEqual(turned(board, [(0, 2)]), [(0, 0), (0, 1)])
        self.assert_refused(CORNER, [(0, 2)])


if __name__ == "__main__":
    unittest.main()
