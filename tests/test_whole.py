"""What the document promises over the whole program: refusals, and that nothing handed in is changed or kept."""

import copy
import inspect
import unittest

from drawn import FRAME, LINE, SMALL_CROSS
from pegleap import boards, search, standings, weights
from pegleap.boards import Board, leaps
from pegleap.errors import BadPegs, BadWeights

FUNCTIONS = {
    boards.leaps: ("board",),
    boards.turned: ("board", "pegs"),
    standings.open_leaps: ("board", "pegs"),
    standings.leapt: ("board", "pegs", "leap"),
    standings.walked: ("board", "pegs", "row"),
    standings.class_of: ("board", "pegs"),
    weights.fair: ("board", "weights"),
    weights.weight: ("board", "weights", "pegs"),
    search.reached: ("board", "pegs"),
    search.answer: ("board", "pegs", "others"),
    search.holds: ("board", "pegs", "others", "paper"),
    search.row_count: ("board", "pegs", "others"),
}

PEGS = [(0, 0), (0, 1)]
BEHIND = [(0, 2)]
GOOD = {
    "pegs": [PEGS, BEHIND, [], LINE],
    "others": [BEHIND, PEGS, [], LINE],
    "leap": [((0, 0), (0, 2)), ((0, 2), (0, 0)), ((0, 0), (0, 1))],
    "row": [[], [((0, 0), (0, 2))], [((0, 0), (0, 2)), ((0, 2), (0, 0))]],
    "weights": [[1, 1, 1], [0, 0, 1], [1000, 0, -1000]],
    "paper": [
        ("class",), ("weights", [1, 1, 1]), ("weights", [0, 0, 1]), ("weights", [1]), ("closed", []),
        ("closed", [PEGS, BEHIND]), ("closed", [BEHIND, PEGS, []]), ("closed", [[(0, 1), (0, 0)]]),
    ],
}
NO_STANDINGS = [
    [(0, 1), (0, 0)], [(0, 2), (0, 1), (0, 0)], [(0, 0), (0, 0)], [(0, 0), (0, 1), (0, 1)], [(0, 3)], [(1, 0)],
    [(0, -1), (0, 0)], [(-1, 0)], [(0, 8)], [(8, 0)], [(0, 0), (0, 1), (0, 2), (0, 3)], [(10 ** 5000, 0)],
    [(0, -10 ** 5000)],
]
NO_WEIGHTS = [[], [1, 1], [1, 1, 1, 1], [1001, 1, 1], [1, -1001, 1], [1, 1, 10 ** 5000]]
BAD = {"pegs": NO_STANDINGS, "others": NO_STANDINGS, "weights": NO_WEIGHTS}
REFUSALS = {"pegs": BadPegs, "others": BadPegs, "weights": BadWeights}


def handed(names, choices):
    """All ways to hand in the named things, each with one of its choices."""
    ways = [[]]
    for name in names:
        ways = [way + [choice] for way in ways for choice in choices[name]]
    return copy.deepcopy(ways)


def told_by(function, *arguments):
    """What is told, or the refusal's class."""
    try:
        return function(*arguments)
    except (ValueError, TypeError, LookupError) as error:
        return type(error)


def lists_in(thing):
    found = [thing] if isinstance(thing, list) else []
    if isinstance(thing, (list, tuple)):
        for one in thing:
            found += lists_in(one)
    return found


class Interface(unittest.TestCase):
    def test_names_and_arguments(self):
        for function, names in FUNCTIONS.items():
            self.assertEqual(tuple(inspect.signature(function).parameters), names)
        self.assertEqual(tuple(inspect.signature(Board).parameters), ("cells",))


class Refusals(unittest.TestCase):
    def test_one_thing_that_is_none(self):
        board = Board(LINE)
        for function, names in FUNCTIONS.items():
            for name in names[1:]:
                choices = {**GOOD, name: BAD.get(name, [])}
                for arguments in handed(names[1:], choices):
                    told = told_by(function, board, *arguments)
                    self.assertIs(told, REFUSALS[name], (function.__name__, name))

    def test_of_several_that_are_none_the_first_one_is_refused(self):
        board = Board(LINE)
        for function, names in FUNCTIONS.items():
            bad = [name for name in names if name in BAD]
            if bad:
                for arguments in handed(names[1:], {**GOOD, **BAD}):
                    told = told_by(function, board, *arguments)
                    self.assertIs(told, REFUSALS[bad[0]], function.__name__)

    def test_bad_pegs_ahead_of_any_leap_and_row(self):
        board = Board(LINE)
        for pegs in NO_STANDINGS:
            for leap in (((0, 0), (0, 3)), ((9, 9), (9, 9)), ((10 ** 5000, 0), (0, 0))):
                self.assertIs(told_by(standings.leapt, board, pegs, leap), BadPegs)
                self.assertIs(told_by(standings.walked, board, pegs, [leap, leap]), BadPegs)

    def test_a_standing_of_another_board(self):
        pegs = [(1, 1)]
        self.assertEqual(search.reached(Board(SMALL_CROSS), [(1, 0), (1, 1), (1, 2)]), [[(1, 0), (1, 1), (1, 2)]])
        for function, names in FUNCTIONS.items():
            if "pegs" in names:
                for arguments in handed(names[1:], {**GOOD, "pegs": [pegs]}):
                    self.assertIs(told_by(function, Board(LINE), *arguments), BadPegs)


class HandedIn(unittest.TestCase):
    def ways(self):
        """Each function with things that are taken, and with things that are refused."""
        for function, names in FUNCTIONS.items():
            mixed = {name: choices + BAD.get(name, [])[:3] for name, choices in GOOD.items()}
            for arguments in handed(names[1:], mixed):
                yield function, arguments

    def test_nothing_is_changed(self):
        board = Board(LINE)
        for function, arguments in self.ways():
            before = copy.deepcopy(arguments)
            told_by(function, board, *arguments)
            self.assertEqual(arguments, before, function.__name__)
            self.assertEqual(vars(board), {"cells": LINE}, function.__name__)

    def test_what_is_told_shares_no_list(self):
        board = Board(LINE)
        for function, arguments in self.ways():
            told = told_by(function, board, *arguments)
            all_lists = lists_in(told)
            self.assertEqual(len({id(one) for one in all_lists}), len(all_lists), function.__name__)
            others = {id(one) for one in lists_in(arguments) + [board.cells]}
            self.assertEqual([one for one in all_lists if id(one) in others], [], function.__name__)

    def test_nothing_hangs_on_what_was_told(self):
        board = Board(LINE)
        for function, arguments in self.ways():
            told = told_by(function, board, *arguments)
            kept = copy.deepcopy(told)
            for one in lists_in(told):
                one.append("mark")
            self.assertEqual(told_by(function, board, *arguments), kept, function.__name__)

    def test_nothing_hangs_on_what_was_handed_in(self):
        board = Board(LINE)
        for function, arguments in self.ways():
            again = copy.deepcopy(arguments)
            told = told_by(function, board, *arguments)
            kept = copy.deepcopy(told)
            for one in lists_in(arguments):
                one.clear()
            self.assertEqual(told, kept, function.__name__)
            self.assertEqual(told_by(function, board, *again), kept, function.__name__)

    def test_lists_of_a_bigger_board_are_kept_apart(self):
        board = Board(FRAME)
        pegs = FRAME[1:]
        for told in (search.reached(board, pegs), search.answer(board, pegs, FRAME), search.answer(board, pegs, pegs)):
            all_lists = lists_in(told)
            self.assertEqual(len({id(one) for one in all_lists + [pegs, board.cells]}), len(all_lists) + 2)

    def test_one_list_handed_in_for_several_things(self):
        board = Board(LINE)
        pegs = list(LINE)
        self.assertEqual(search.answer(board, pegs, pegs), ("leaps", []))
        self.assertEqual(search.row_count(board, pegs, pegs), 1)
        self.assertIs(search.holds(board, pegs, pegs, ("closed", [pegs, pegs])), False)
        self.assertEqual(pegs, LINE)

    def test_the_boards_own_cells_handed_in(self):
        board = Board(LINE)
        told = [
            standings.walked(board, board.cells, []), search.reached(board, board.cells)[0],
            search.answer(board, board.cells, board.cells)[1], leaps(board),
        ]
        for one in told:
            one.append("mark")
        self.assertEqual(board.cells, LINE)


if __name__ == "__main__":
    unittest.main()
