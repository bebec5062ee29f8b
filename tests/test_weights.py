import random
import unittest

from drawn import (
    BOARDS, COLUMN, CORNER, CROSS, FRAME, LINE, LONG_CORNER, ONE, PLUS, SPRINKLED, SQUARE, any_cells, any_pegs,
    behind_by_definition, open_by_definition, triples,
)
from pegleap.boards import Board
from pegleap.errors import BadPegs, BadWeights
from pegleap.weights import fair, weight

ALL_BOARDS = list(BOARDS) + any_cells(6, 24)
NO_STANDINGS = ([(0, 1), (0, 0)], [(0, 0), (0, 0)], [(7, 7)], [(-1, 0)], [(10 ** 5000, 0)])


def fair_by_definition(cells, weights):
    of = {cell: weights[k] for k, cell in enumerate(cells)}
    return all(of[first] + of[middle] >= of[second] for first, middle, second in triples(tuple(cells)))


def any_weights(chance, cells):
    """Lists of weights of which some are fair and some aren't."""
    lists = [[number] * len(cells) for number in (0, 1, -1, 1000, -1000)]
    for low, high in ((0, 1), (1, 2), (2, 5), (-1, 3), (400, 1000), (500, 1000), (-1000, 1000)):
        lists.append([chance.randint(low, high) for cell in cells])
    return lists


def made_fair(cells, weights):
    """Weights lowered until they are fair, where all were from 0 on."""
    of = {cell: weights[k] for k, cell in enumerate(cells)}
    changed = True
    while changed:
        changed = False
        for first, middle, second in triples(tuple(cells)):
            most = of[first] + of[middle]
            if of[second] > most:
                of[second] = most
                changed = True
    return [of[cell] for cell in cells]


class Fair(unittest.TestCase):
    def assert_fair(self, cells, weights):
        self.assertIs(fair(Board(cells), weights), True)

    def assert_unfair(self, cells, weights):
        self.assertIs(fair(Board(cells), weights), False)

    def test_a_line(self):
        for cells in (LINE, COLUMN):
            for weights in ([0, 0, 0], [1, 1, 1], [1, 1, 2], [2, 1, 1], [-1, 1, 0], [1000, 0, 1000], [0, 1000, 0]):
                self.assert_fair(cells, weights)
            for weights in ([0, 0, 1], [1, 0, 0], [1, 1, 3], [3, 1, 1], [0, -1, 0], [-1, -1, -1], [-1, 1, 1]):
                self.assert_unfair(cells, weights)

    def test_together_just_as_much_is_fair_and_one_less_is_not(self):
        self.assert_fair(LINE, [500, 500, 1000])
        self.assert_unfair(LINE, [499, 500, 1000])
        self.assert_fair(LINE, [1000, 500, 500])
        self.assert_unfair(LINE, [1000, 500, 499])
        self.assert_fair(LINE, [1000, 0, 1000])
        self.assert_unfair(LINE, [1000, -1, 1000])

    def test_the_bounds_themselves(self):
        self.assert_fair(ONE, [1000])
        self.assert_fair(ONE, [-1000])
        self.assert_fair(SQUARE, [1000] * 9)
        self.assert_unfair(SQUARE, [-1000] * 9)
        self.assert_fair(LINE, [-1000, 1000, 0])
        self.assert_unfair(LINE, [-1000, 1000, 1])

    def test_without_leaps_all_are_fair(self):
        for cells in (ONE, CORNER, SPRINKLED):
            for number in (-1000, -1, 0, 7, 1000):
                self.assert_fair(cells, [number] * len(cells))
        self.assert_fair(CORNER, [1000, -1000, -1000])

    def test_one_unfair_leap_at_each_place(self):
        for cells in (FRAME, PLUS, CROSS):
            for first, middle, second in triples(tuple(cells)):
                weights = [1000 if cell == second else 499 if cell in (first, middle) else 750 for cell in cells]
                self.assert_unfair(cells, weights)

    def test_each_weight_stands_for_the_cell_at_its_place(self):
        # (0, 0), (0, 1), (0, 2), (1, 0), (2, 0): 9 can be leapt onto over 1 from 8, not over 0 from 8.
        self.assert_fair(LONG_CORNER, [9, 9, 1, 1, 8])
        self.assert_unfair(LONG_CORNER, [9, 9, 1, 0, 8])
        self.assert_unfair(LONG_CORNER, [9, 9, 1, 8, 0])

    def test_by_definition(self):
        chance = random.Random(7)
        told = {True: 0, False: 0}
        for cells in ALL_BOARDS:
            board = Board(cells)
            for weights in any_weights(chance, cells):
                expected = fair_by_definition(cells, weights)
                self.assertIs(fair(board, weights), expected)
                told[expected] += 1
        self.assertGreater(min(told.values()), 100)


class Weight(unittest.TestCase):
    def test_no_peg(self):
        self.assertEqual(weight(Board(LINE), [5, 6, 7], []), 0)

    def test_some_pegs(self):
        board = Board(LONG_CORNER)
        weights = [1, 20, 300, -50, -1000]
        self.assertEqual(weight(board, weights, [(0, 0)]), 1)
        self.assertEqual(weight(board, weights, [(0, 1), (0, 2)]), 320)
        self.assertEqual(weight(board, weights, [(1, 0), (2, 0)]), -1050)
        self.assertEqual(weight(board, weights, LONG_CORNER), -729)

    def test_unfair_weights_too(self):
        self.assertEqual(weight(Board(LINE), [0, -1, 0], LINE), -1)

    def test_the_bounds_themselves(self):
        self.assertEqual(weight(Board(CROSS), [1000] * 24, CROSS), 24000)
        self.assertEqual(weight(Board(CROSS), [-1000] * 24, CROSS), -24000)

    def test_by_definition(self):
        chance = random.Random(8)
        for number, cells in enumerate(ALL_BOARDS):
            board = Board(cells)
            for weights in any_weights(chance, cells)[-3:]:
                for pegs in any_pegs(number, cells, 5):
                    expected = sum(weights[k] for k, cell in enumerate(cells) if cell in pegs)
                    told = weight(board, weights, pegs)
                    self.assertEqual(told, expected)
                    self.assertIs(type(told), int)

    def test_no_leap_makes_heavier_by_fair_weights(self):
        chance = random.Random(9)
        lighter = 0
        for number, cells in enumerate(ALL_BOARDS):
            board = Board(cells)
            weights = made_fair(cells, [chance.randint(0, 1000) for cell in cells])
            self.assertIs(fair(board, weights), True)
            for pegs in any_pegs(number, cells, 6):
                for leap in open_by_definition(cells, pegs):
                    behind = weight(board, weights, behind_by_definition(pegs, leap))
                    self.assertLessEqual(behind, weight(board, weights, pegs))
                    lighter += behind < weight(board, weights, pegs)
        self.assertGreater(lighter, 100)


class Refused(unittest.TestCase):
    def assert_refused(self, cells, weights):
        board = Board(cells)
        handed = list(weights)
        with self.assertRaises(BadWeights):
            fair(board, handed)
        for pegs in ([], list(cells)) + NO_STANDINGS:
            with self.assertRaises(BadWeights):
                weight(board, handed, pegs)
        self.assertEqual(handed, weights)

    def test_one_too_many_and_one_too_few(self):
        for cells in (ONE, CORNER, LINE, FRAME, CROSS):
            for number in (0, 1, -1000, 1000):
                for size in (len(cells) - 1, len(cells) + 1):
                    self.assert_refused(cells, [number] * size)

    def test_none_and_many_too_many(self):
        for cells in (ONE, LINE, CROSS):
            self.assert_refused(cells, [])
            self.assert_refused(cells, [1] * 100)

    def test_beyond_the_bounds_at_each_place(self):
        for cells in (ONE, CORNER, LINE, SQUARE, CROSS):
            for bad in (1001, -1001, 1002, 5000, -5000, 10 ** 5000, -10 ** 5000):
                for k in range(len(cells)):
                    self.assert_refused(cells, [0] * k + [bad] + [0] * (len(cells) - k - 1))

    def test_beyond_the_bounds_and_unfair(self):
        self.assert_refused(LINE, [0, 0, 1001])
        self.assert_refused(LINE, [-1001, 5, 5])

    def test_bad_pegs_with_good_weights(self):
        for pegs in NO_STANDINGS:
            for weights in ([1, 1, 1], [0, -1, 0]):
                with self.assertRaises(BadPegs):
                    weight(Board(LINE), weights, pegs)


if __name__ == "__main__":
    unittest.main()
