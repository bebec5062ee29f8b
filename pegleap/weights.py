"""Weights of a board's cells, by which no leap makes a standing heavier if they are fair."""

from pegleap.boards import between, check_pegs, leaps
from pegleap.errors import BadWeights

LEAST = -1000
MOST = 1000


def check_weights(board, weights):
    if len(weights) != len(board.cells):
        raise BadWeights("weights are as many as the board's cells")
    for number in weights:
        if not LEAST <= number <= MOST:
            raise BadWeights(f"a weight is from {LEAST} to {MOST}")


def fair(board, weights):
    check_weights(board, weights)
    by_cell = dict(zip(board.cells, weights))
    for leap in leaps(board):
        if by_cell[leap[0]] + by_cell[between(leap[0], leap[1])] < by_cell[leap[1]]:
            return False
    return True


def weight(board, weights, pegs):
    check_weights(board, weights)
    check_pegs(board, pegs)
    by_cell = dict(zip(board.cells, weights))
    return sum([by_cell[cell] for cell in pegs])
