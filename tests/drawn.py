"""Boards for the tests, drawn as rows of signs, and what the document says of leaps put the slow way."""

import itertools


def drawn(*rows):
    """The cells that are drawn with `o`, rising."""
    return [(r, c) for r, row in enumerate(rows) for c, sign in enumerate(row) if sign == "o"]


ONE = drawn("o")
CORNER = drawn("oo", "o.")
LINE = drawn("ooo")
COLUMN = drawn("o", "o", "o")
LONG_CORNER = drawn("ooo", "o..", "o..")
FRAME = drawn("oooo", "o..o", "o..o", "oooo")
SQUARE = drawn("ooo", "ooo", "ooo")
BLOCK = drawn("oooooo", "oooooo", "oooooo", "oooooo")
FAR_ROW = drawn(*["........"] * 7, "oooooooo")
FAR_CORNER = drawn(*["........"] * 5, ".......o", ".......o", ".....ooo")
CROSS = drawn("..ooo..", "..o.o..", "ooo.ooo", "o.....o", "ooo.ooo", "..o.o..", "..ooo..")
CROSS_WITH_HEART = drawn("..o.o..", "...o...", "o.ooo.o", ".ooooo.", "o.ooo.o", "...o...", "..o.o..")
SPRINKLED = drawn("o.o.o.o.", ".o.o.o.o", "o.o.o.o.", ".o.o.o.o")
PAIRS = drawn("oo.oo.oo", "oo.oo.oo", "........", "oo.oo.oo", "oo.oo.oo")

BOARDS = (
    ONE, CORNER, LINE, COLUMN, LONG_CORNER, FRAME, SQUARE, BLOCK, FAR_ROW, FAR_CORNER, CROSS, CROSS_WITH_HEART,
    SPRINKLED, PAIRS,
)


def leaps_by_definition(cells):
    found = []
    for first, middle, second in itertools.permutations(cells, 3):
        along_row = first[0] == middle[0] == second[0] and abs(first[1] - second[1]) == 2
        along_column = first[1] == middle[1] == second[1] and abs(first[0] - second[0]) == 2
        midway = all(2 * middle[k] == first[k] + second[k] for k in (0, 1))
        if (along_row or along_column) and midway:
            found.append((first, second))
    return sorted(found)
