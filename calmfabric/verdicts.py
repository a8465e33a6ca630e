"""Whether packets can get stuck: ranks show that they cannot, a knot that they can."""

from calmfabric.blocked import stages_of
from calmfabric.cases import case_options, case_placements
from calmfabric.values import is_ascending_below, is_from, is_number, is_tuple_of


def verdict(case):
    """Return the pair of "ranks" and the least ranks, or of "knot" and the greatest knot."""
    stages = stages_of(count_channels(case), cells_of(case), ())
    left = [c for c, stage in enumerate(stages) if stage is None]
    if left:
        return ("knot", knot_on(case, left))
    return ("ranks", tuple(stages))


def count_channels(case):
    """Return the number of channels."""
    return len(case[0][1])


def cells_of(case):
    """List the cells: the channels of the placements, not home ones, that have the same options, and these."""
    (_, channels), _, onward = case
    waiting = {}
    for c, d in case_placements(case):
        v = channels[c][1]
        if v != d:
            waiting.setdefault(onward[v][d], []).append(c)
    # A channel may be told for several goals, but waits once.
    return [(sorted(set(waiting[cell])), cell) for cell in waiting]


def knot_on(case, left):
    """Return the knot with these channels, each with its least goal for which all options are among them."""
    channels = case[0][1]
    inside = set(left)
    goals = {}
    for c, d in case_placements(case):
        if c in inside and c not in goals and channels[c][1] != d:
            if all([option in inside for option in case_options(case, c, d)]):
                goals[c] = d
    return tuple([(c, goals[c]) for c in left])


def least_ranks(case):
    """Return the least ranks, or None."""
    word, told = verdict(case)
    return told if word == "ranks" else None


def greatest_knot(case):
    """Return the greatest knot, or None."""
    word, told = verdict(case)
    return told if word == "knot" else None


def tight_knot(case):
    """Return the tight knot, or None."""
    many = count_channels(case)
    cells = cells_of(case)
    greatest = knot_channels(many, cells, list(range(many)))
    left = greatest
    for c in greatest:
        fewer = knot_channels(many, cells, [other for other in left if other != c])
        if fewer:
            left = fewer
    return knot_on(case, left) if left else None


def knot_channels(many, cells, kept):
    """List the channels of the greatest knot that has only channels of the kept ones, ascending."""
    everything = list(range(many))
    stages = stages_of(many, cells, sorted(set(everything) - set(kept)))
    return [c for c in everything if stages[c] is None]


def is_ranks(case, value):
    """Tell whether any value is ranks of the case."""
    if not is_tuple_of(value, count_channels(case)):
        return False
    if not all([is_from(rank, 0) for rank in value]):
        return False
    return all([least(value, cell) < least(value, waiting) for waiting, cell in cells_of(case)])


def least(ranks, numbers):
    """Return the least rank of some channels."""
    return min([ranks[c] for c in numbers])


def is_knot(case, value):
    """Tell whether any value is a knot of the case."""
    if not isinstance(value, tuple) or not value:
        return False
    if not all([is_waiting(case, pair) for pair in value]):
        return False
    taken = tuple([c for c, _ in value])
    if not is_ascending_below(taken, count_channels(case)):
        return False
    inside = set(taken)
    return all([option in inside for c, d in value for option in case_options(case, c, d)])


def is_waiting(case, value):
    """Tell whether any value is a placement of the case that is not home."""
    (n, channels), table, _ = case
    if not is_tuple_of(value, 2):
        return False
    c, d = value
    if not is_number(c, 0, len(channels) - 1) or not is_number(d, 0, n - 1):
        return False
    source, target, _ = channels[c]
    return target != d and c in table[source][d]
