"""Boards for the tests, drawn as rows of signs, and what the document says put the slow way."""

import functools
import itertools
import random


def drawn(*rows):
    """The cells that are drawn with `o`, rising."""
    return [(r, c) for r, row in enumerate(rows) for c, sign in enumerate(row) if sign == "o"]


ONE = drawn("o")
CORNER = drawn("oo", "o.")
LINE = drawn("ooo")
COLUMN = drawn("o", "o", "o")
LONG_CORNER = drawn("ooo", "o..", "o..")
FRAME = drawn("oooo", "o..o", "o..o", "oooo")
SQUARE = drawn("ooo", "ooo", "ooo")
BLOCK = drawn("oooooo", "oooooo", "oooooo", "oooooo")
FAR_ROW = drawn(*["........"] * 7, "oooooooo")
FAR_CORNER = drawn(*["........"] * 5, ".......o", ".......o", ".....ooo")
CROSS = drawn("..ooo..", "..o.o..", "ooo.ooo", "o.....o", "ooo.ooo", "..o.o..", "..ooo..")
CROSS_WITH_HEART = drawn("..o.o..", "...o...", "o.ooo.o", ".ooooo.", "o.ooo.o", "...o...", "..o.o..")
SPRINKLED = drawn("o.o.o.o.", ".o.o.o.o", "o.o.o.o.", ".o.o.o.o")
PAIRS = drawn("oo.oo.oo", "oo.oo.oo", "........", "oo.oo.oo", "oo.oo.oo")

PLUS = drawn("..o..", "..o..", "ooooo", "..o..", "..o..")
OBLONG = drawn("oooo", "oooo", "oooo")
SMALL_OBLONG = drawn("ooo", "ooo")
ROUND = drawn(".oo.", "oooo", "oooo", ".oo.")
HOLED = drawn("ooo", "o.o", "ooo")
SMALL_CROSS = drawn(".o.", "ooo", ".o.")
FAR_LINE = drawn(*["........"] * 7, "...ooooo")

BOARDS = (
    ONE, CORNER, LINE, COLUMN, LONG_CORNER, FRAME, SQUARE, BLOCK, FAR_ROW, FAR_CORNER, CROSS, CROSS_WITH_HEART,
    SPRINKLED, PAIRS, PLUS, OBLONG, SMALL_OBLONG, ROUND, HOLED, SMALL_CROSS, FAR_LINE,
)
# The boards of which search.py may be asked.
SEARCHED = tuple(cells for cells in BOARDS if len(cells) <= 12)
# The boards of which any two standings can be gone through.
TINY = (ONE, CORNER, LINE, COLUMN, LONG_CORNER, FAR_CORNER, SMALL_OBLONG, SMALL_CROSS, FAR_LINE)


def all_sublists(cells):
    return [list(part) for size in range(len(cells) + 1) for part in itertools.combinations(cells, size)]


def any_cells(seed, most):
    """For each size up to `most` a board of any cells of the field, and one of cells that lie close together."""
    chance = random.Random(seed)
    field = [(r, c) for r in range(8) for c in range(8)]
    boards = []
    for size in range(1, most + 1):
        boards.append(sorted(chance.sample(field, size)))
        close = [chance.choice(field)]
        while len(close) < size:
            near = chance.choice(close)
            cell = (near[0] + chance.choice((-1, 0, 1)), near[1] + chance.choice((-1, 0, 1)))
            if cell in field and cell not in close:
                close.append(cell)
        boards.append(sorted(close))
    return boards


def any_pegs(seed, cells, count):
    """The empty and the full standing, those with one peg too few, and `count` more."""
    chance = random.Random(seed)
    found = [[], list(cells)]
    found += [[cell for cell in cells if cell != left_out] for left_out in cells]
    for share in range(count):
        size = chance.randrange(len(cells) + 1)
        found.append(sorted(chance.sample(cells, size)))
    return found


def leaps_by_definition(cells):
    found = []
    for first, middle, second in itertools.permutations(cells, 3):
        along_row = first[0] == middle[0] == second[0] and abs(first[1] - second[1]) == 2
        along_column = first[1] == middle[1] == second[1] and abs(first[0] - second[0]) == 2
        midway = all(2 * middle[k] == first[k] + second[k] for k in (0, 1))
        if (along_row or along_column) and midway:
            found.append((first, second))
    return sorted(found)


def middle_by_definition(first, second):
    """The cell between two of one row or one column that are two apart; else None."""
    if first[0] == second[0] and abs(first[1] - second[1]) == 2:
        return (first[0], min(first[1], second[1]) + 1)
    if first[1] == second[1] and abs(first[0] - second[0]) == 2:
        return (min(first[0], second[0]) + 1, first[1])
    return None


@functools.cache
def triples(cells):
    """The three cells of each leap of a board (a tuple of cells here), found by trying each two cells."""
    tried = [(first, middle_by_definition(first, second), second) for first in cells for second in cells]
    return [triple for triple in tried if triple[1] in cells]


def open_by_definition(cells, pegs):
    return sorted(
        (first, second) for first, middle, second in triples(tuple(cells))
        if first in pegs and middle in pegs and second not in pegs)


def behind_by_definition(pegs, leap):
    gone = {leap[0], middle_by_definition(*leap)}
    return sorted((set(pegs) - gone) | {leap[1]})


def rows_by_definition(cells, pegs):
    """Each row of leaps that can be done, rising, with the standing behind it: tuples (row, standing)."""
    found = [([], list(pegs))]
    for leap in open_by_definition(cells, pegs):
        for row, standing in rows_by_definition(cells, behind_by_definition(pegs, leap)):
            found.append(([leap] + row, standing))
    return found


def rows_by_end(cells, pegs):
    """For each standing that is come to, as a tuple, all rows that lead to it, rising."""
    found = {}
    for row, standing in rows_by_definition(cells, pegs):
        found.setdefault(tuple(standing), []).append(row)
    return {standing: sorted(rows) for standing, rows in found.items()}
