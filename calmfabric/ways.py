"""Ways of packets to a goal: how long they are, and whether packets can go round for ever."""

from calmfabric.networks import is_home, options, placements
from calmfabric.values import are_below, is_from, is_tuple_of


def least_lengths(fabric, d):
    """Return for each channel the least length of its placement for the goal, None if it has none."""
    near = least_moves(fabric, d)
    return tuple([None if v is None or near[v] is None else 1 + near[v] for v in targets_for(fabric, d)])


def targets_for(fabric, d):
    """List the targets of the channels that have a placement for the goal, None for the others."""
    (_, channels), table = fabric
    own = {c for row in table for c in row[d]}
    return [target if c in own else None for c, (_, target, _) in enumerate(channels)]


def least_moves(fabric, d):
    """List for each node through how many channels packets for the goal come to it at the least, None if never."""
    ahead = nodes_ahead(fabric, d)
    moves = [None] * len(ahead)
    reached = [d]
    length = 0
    while reached:
        for u in reached:
            moves[u] = length
        length += 1
        reached = [u for u, row in enumerate(ahead) if moves[u] is None and any([moves[v] is not None for v in row])]
    return moves


def nodes_ahead(fabric, d):
    """List for each node the targets of its options for the goal."""
    (_, channels), table = fabric
    return [[channels[c][1] for c in row[d]] for row in table]


def astray(fabric):
    """List all placements that have no way, ascending."""
    n = fabric[0][0]
    lengths = [least_lengths(fabric, d) for d in range(n)]
    return [(c, d) for c, d in placements(fabric) if lengths[d][c] is None]


def find_loop(fabric, d):
    """Return a loop for the goal, or None."""
    channels = fabric[0][1]
    table = fabric[1]
    most = most_moves(fabric, d)
    looping = [u for u, length in enumerate(most) if length is None]
    if not looping:
        return None
    # Each of these nodes has an option to another one of them, so a row of such options comes to a node twice.
    here = looping[0]
    row = []
    places = {}
    while here not in places:
        places[here] = len(row)
        row.append([c for c in table[here][d] if most[channels[c][1]] is None][0])
        here = channels[row[-1]][1]
    return tuple(row[places[here]:])


def most_moves(fabric, d):
    """List for each node through how many channels packets for the goal go at the most, None if there is a loop."""
    ahead = nodes_ahead(fabric, d)
    most = [None] * len(ahead)
    ready = [u for u, row in enumerate(ahead) if not row]
    while ready:
        lengths = [1 + max([most[v] for v in ahead[u]], default=-1) for u in ready]
        for u, length in zip(ready, lengths):
            most[u] = length
        ready = [u for u, row in enumerate(ahead) if most[u] is None and all([most[v] is not None for v in row])]
    return most


def is_loop(fabric, d, value):
    """Tell whether any value is a loop for the goal."""
    many = len(fabric[0][1])
    if not value or not are_below(value, many) or len(set(value)) != len(value):
        return False
    return are_linked(fabric, d, value + value[:1])


def are_linked(fabric, d, row):
    """Tell whether each channel of a row but the first is an option of the one before with the goal."""
    return all([row[k + 1] in options(fabric, row[k], d) for k in range(len(row) - 1)])


def greatest_lengths(fabric, d):
    """Return for each channel the greatest length of its placement for the goal or 0, or None if there is a loop."""
    most = most_moves(fabric, d)
    if None in most:
        return None
    return tuple([0 if v is None else 1 + most[v] for v in targets_for(fabric, d)])


def are_heights(fabric, d, value):
    """Tell whether any value is heights for the goal."""
    many = len(fabric[0][1])
    if not is_tuple_of(value, many) or not all([is_from(height, 0) for height in value]):
        return False
    goes = [v is not None for v in targets_for(fabric, d)]
    return all([is_height(fabric, d, value, c) if goes[c] else value[c] == 0 for c in range(many)])


def is_height(fabric, d, heights, c):
    """Tell whether the number of a placement is more than 0 and than the numbers of all its options."""
    return heights[c] > max([heights[option] for option in options(fabric, c, d)], default=0)


def arrives(fabric):
    """Tell whether the fabric has heights for all goals."""
    n = fabric[0][0]
    return all([None not in most_moves(fabric, d) for d in range(n)])


def first_way(fabric, c, d):
    """Return the first of the ways of least length from a placement, or None if it is astray."""
    lengths = least_lengths(fabric, d)
    if lengths[c] is None:
        return None
    row = [c]
    while not is_home(fabric, row[-1], d):
        here = row[-1]
        # Ways of one length are in the order of their first different channels.
        row.append([option for option in options(fabric, here, d) if lengths[option] == lengths[here] - 1][0])
    return tuple(row)
