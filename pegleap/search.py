"""What is come to from a standing, and papers of what is never come to."""

from pegleap.boards import check_pegs, leaps
from pegleap.errors import BadPegs, BadWeights
from pegleap.standings import can_be_done, class_of, pegs_behind
from pegleap.weights import fair, weight

# Within this file standings are tuples, since a dict takes no list as a key; what is told is made lists again.
# A layer is a dict with all standings behind rows of one length. Each leap takes one peg away, so the standings
# of a layer have as many pegs, and no standing lies in two layers.


def steps_from(all_leaps, standing):
    """Each leap that can be done, rising, with the standing behind it."""
    return [(leap, tuple(pegs_behind(standing, leap))) for leap in all_leaps if can_be_done(standing, leap)]


def next_rows(all_leaps, layer):
    """The next layer, where each standing has the first row that leads to it."""
    found = {}
    # A layer's standings came in the order of their rows, so what comes first to a standing is its first row.
    for standing, row in layer.items():
        for leap, behind in steps_from(all_leaps, standing):
            if behind not in found:
                found[behind] = row + [leap]
    return found


def next_counts(all_leaps, layer):
    """The next layer, where each standing has the number of rows that lead to it."""
    found = {}
    for standing, count in layer.items():
        for leap, behind in steps_from(all_leaps, standing):
            found[behind] = found.get(behind, 0) + count
    return found


def first_rows(board, pegs):
    """All standings that are come to, each with the first row that leads to it."""
    all_leaps = leaps(board)
    found = {}
    layer = {tuple(pegs): []}
    while len(layer) > 0:
        found.update(layer)
        layer = next_rows(all_leaps, layer)
    return found


def in_order(standings):
    return sorted([list(standing) for standing in standings], key=lambda pegs: (-len(pegs), pegs))


def reached(board, pegs):
    check_pegs(board, pegs)
    return in_order(first_rows(board, pegs))


def answer(board, pegs, others):
    check_pegs(board, pegs)
    check_pegs(board, others)
    if class_of(board, pegs) != class_of(board, others):
        return ("never", ("class",))
    rows = first_rows(board, pegs)
    if tuple(others) in rows:
        return ("leaps", rows[tuple(others)])
    return ("never", ("closed", in_order(rows)))


def holds(board, pegs, others, paper):
    check_pegs(board, pegs)
    check_pegs(board, others)
    if paper[0] == "class":
        return class_of(board, pegs) != class_of(board, others)
    if paper[0] == "weights":
        return weights_hold(board, pegs, others, paper[1])
    return closed_holds(board, pegs, others, paper[1])


def weights_hold(board, pegs, others, weights):
    try:
        is_fair = fair(board, weights)
    except BadWeights:
        return False
    return is_fair and weight(board, weights, pegs) < weight(board, weights, others)


def closed_holds(board, pegs, others, standings):
    if not all_standings(board, standings) or pegs not in standings or others in standings:
        return False
    return is_closed(board, standings)


def all_standings(board, standings):
    try:
        for pegs in standings:
            check_pegs(board, pegs)
    except BadPegs:
        return False
    return True


def is_closed(board, standings):
    all_leaps = leaps(board)
    among = {}
    for pegs in standings:
        among[tuple(pegs)] = True
    for standing in among:
        for leap, behind in steps_from(all_leaps, standing):
            if behind not in among:
                return False
    return True


def row_count(board, pegs, others):
    check_pegs(board, pegs)
    check_pegs(board, others)
    all_leaps = leaps(board)
    layer = {tuple(pegs): 1}
    # All rows that lead to the other standing are as long as pegs are to be taken away.
    for leaps_done in range(len(pegs) - len(others)):
        layer = next_counts(all_leaps, layer)
    return layer.get(tuple(others), 0)
