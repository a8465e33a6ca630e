"""Ways of worms, and those that a worm knot can have in a situation."""

from heapq import heappop, heappush

from calmfabric.networks import options
from calmfabric.values import is_number
from calmfabric.worms import is_row_for


def is_way(fabric, d, value):
    """Tell whether any value is a way for the goal."""
    n = fabric[0][0]
    return is_number(d, 0, n - 1) and is_row_for(fabric, d, value)


def way_options(fabric, d, way):
    """Return the options of a way for the goal."""
    return options(fabric, way[-1], d)


def least_length(network, way):
    """Return the least length of a way: that of a worm that can't release its first channel."""
    return 1 + rooms_of(network, way[1:])


def rooms_of(network, row):
    """Return how many flits the channels of a row have room for together."""
    channels = network[1]
    return sum([channels[c][2] for c in row])


def candidates(fabric, longest, chosen, barred, c):
    """List the candidates through a channel in a situation, ascending."""
    n = fabric[0][0]
    usable = usable_channels(fabric, chosen, barred)
    found = []
    for d in range(n if usable[c] else 0):
        ends = end_costs(fabric, usable, barred, d)
        tails = tails_from(fabric, longest, usable, ends, c, d)
        found.extend([(d, way) for tail in tails for way in ways_to(fabric, longest, usable, tail, d)])
    return sorted(found)


def is_idle(fabric, longest, chosen, barred, c):
    """Tell whether there is no candidate through a channel in a situation."""
    return not busy_channels(fabric, longest, chosen, barred)[c]


def busy_channels(fabric, longest, chosen, barred):
    """List for each channel whether there is a candidate through it in a situation."""
    n, channels = fabric[0]
    usable = usable_channels(fabric, chosen, barred)
    busy = [False] * len(channels)
    for d in range(n):
        ends = end_costs(fabric, usable, barred, d)
        for c in placed_channels(fabric, d):
            # What comes before the channel on a way only makes it longer.
            end = ends[channels[c][1]]
            if usable[c] and end is not None and end < longest:
                busy[c] = True
    return busy


def placed_channels(fabric, d):
    """List the channels that have a placement for the goal."""
    table = fabric[1]
    return [c for row in table for c in row[d]]


def usable_channels(fabric, chosen, barred):
    """List for each channel whether it is neither barred nor on a chosen way."""
    channels = fabric[0][1]
    taken = set([c for _, way in chosen for c in way] + list(barred))
    return [c not in taken for c in range(len(channels))]


def end_costs(fabric, usable, barred, d):
    """List for each node the least rooms of a row of usable channels from it to one where a way for the goal may end.

    The row may be empty; None if there is no such row.
    """
    channels = fabric[0][1]
    table = fabric[1]
    shut = set(barred)
    queue = [(0, v) for v, row in enumerate(table) if row[d] and not any([option in shut for option in row[d]])]
    arriving = [[] for _ in table]
    for c in placed_channels(fabric, d):
        if usable[c]:
            arriving[channels[c][1]].append(c)
    costs = [None] * len(table)
    while queue:
        cost, v = heappop(queue)
        if costs[v] is None:
            costs[v] = cost
            for c in arriving[v]:
                source, _, room = channels[c]
                if costs[source] is None:
                    heappush(queue, (cost + room, source))
    return costs


def tails_from(fabric, longest, usable, ends, c, d):
    """List the ways for the goal from a channel on that are candidates; ends are the costs of end_costs."""
    network, table = fabric
    channels = network[1]
    if c not in table[channels[c][0]][d]:
        return []
    found = []
    waiting = [(c,)]
    while waiting:
        row = waiting.pop()
        end = ends[channels[row[-1]][1]]
        # Only rows that can still come to an end are lengthened.
        if end is not None and least_length(network, row) + end <= longest:
            if end == 0:
                found.append(row)
            ahead = [option for option in options(fabric, row[-1], d) if usable[option] and option not in row]
            waiting.extend([row + (option,) for option in ahead])
    return found


def ways_to(fabric, longest, usable, tail, d):
    """List the ways for the goal that are candidates with this end."""
    network = fabric[0]
    channels = network[1]
    placed = [c for c in placed_channels(fabric, d) if usable[c]]
    found = []
    waiting = [tail]
    while waiting:
        row = waiting.pop()
        found.append(row)
        if least_length(network, row) + channels[row[0]][2] <= longest:
            before = [c for c in placed if channels[c][1] == channels[row[0]][0] and c not in row]
            waiting.extend([(c,) + row for c in before])
    return found
