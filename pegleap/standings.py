"""What can be done in a standing, what is behind it, and what no leap changes."""

from pegleap.boards import between, check_pegs, leaps
from pegleap.errors import NoLeap

COLOURS = 3


def can_be_done(pegs, leap):
    """Whether a leap of the board can be done; that it is one is not looked at."""
    return leap[0] in pegs and leap[1] not in pegs and between(leap[0], leap[1]) in pegs


def pegs_behind(pegs, leap):
    taken = (leap[0], between(leap[0], leap[1]))
    return sorted([cell for cell in pegs if cell not in taken] + [leap[1]])


def open_leaps(board, pegs):
    check_pegs(board, pegs)
    return [leap for leap in leaps(board) if can_be_done(pegs, leap)]


def walked(board, pegs, row):
    check_pegs(board, pegs)
    # A copy, so that behind the empty row too what is told is the asker's own.
    standing = list(pegs)
    all_leaps = leaps(board)
    for at, leap in enumerate(row):
        if leap not in all_leaps or not can_be_done(standing, leap):
            raise NoLeap(at)
        standing = pegs_behind(standing, leap)
    return standing


def leapt(board, pegs, leap):
    return walked(board, pegs, [leap])


def odd_on(colours, two):
    return len([colour for colour in colours if colour in two]) % 2


def class_of(board, pegs):
    check_pegs(board, pegs)
    by_sum = [(cell[0] + cell[1]) % COLOURS for cell in pegs]
    by_difference = [(cell[0] - cell[1]) % COLOURS for cell in pegs]
    return (
        odd_on(by_sum, (0, 1)),
        odd_on(by_sum, (1, 2)),
        odd_on(by_difference, (0, 1)),
        odd_on(by_difference, (1, 2)),
    )
