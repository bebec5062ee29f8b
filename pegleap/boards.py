"""Boards, their leaps, and standings turned."""

from pegleap.errors import BadBoard, BadPegs

LAST = 7
MOST_CELLS = 24


def is_rising(cells):
    return cells == sorted(set(cells))


def is_cell(cell):
    return 0 <= cell[0] <= LAST and 0 <= cell[1] <= LAST


def check_cells(cells):
    if not 1 <= len(cells) <= MOST_CELLS:
        raise BadBoard(f"a board has 1 to {MOST_CELLS} cells")
    if not is_rising(cells):
        raise BadBoard("the cells of a board rise, none twice")
    for cell in cells:
        if not is_cell(cell):
            # The words leave the cell out: Python writes no number of some thousand digits.
            raise BadBoard(f"rows and columns go from 0 to {LAST}")


class Board:
    def __init__(self, cells):
        check_cells(cells)
        # A copy, so that nothing hangs on the list that was handed in.
        self.cells = list(cells)


def check_pegs(board, pegs):
    if not is_rising(pegs):
        raise BadPegs("the cells of a standing rise, none twice")
    for cell in pegs:
        if cell not in board.cells:
            raise BadPegs("pegs stand on cells of the board alone")


def two_apart(cell):
    row = cell[0]
    column = cell[1]
    # These rise, so that leaps rise too without being sorted.
    return [(row - 2, column), (row, column - 2), (row, column + 2), (row + 2, column)]


def between(cell, other):
    return ((cell[0] + other[0]) // 2, (cell[1] + other[1]) // 2)


def leaps(board):
    found = []
    for first in board.cells:
        for second in two_apart(first):
            if second in board.cells and between(first, second) in board.cells:
                found.append((first, second))
    return found


def turned(board, pegs):
    check_pegs(board, pegs)
    return [cell for cell in board.cells if cell not in pegs]
