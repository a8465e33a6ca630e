"""Networks, tables, states, ranks, knots, stops and ways out for the checker, which uses no other part."""

MAX_NODES = 64
MAX_CHANNELS = 400
MAX_ROOM = 1000


def is_between(value, low, high):
    """Tell whether any value is an integer from low to high; there is no end if high is None."""
    # Python counts True and False among the integers, the document does not.
    if not isinstance(value, int) or isinstance(value, bool) or value < low:
        return False
    return high is None or value <= high


def has_length(value, length):
    """Tell whether any value is a tuple of this length."""
    return isinstance(value, tuple) and len(value) == length


def is_rising(value, many):
    """Tell whether any value is an ascending tuple of integers from 0 to less than so many."""
    if not isinstance(value, tuple):
        return False
    least = 0
    for k in value:
        if not is_between(k, least, many - 1):
            return False
        least = k + 1
    return True


def is_network(value):
    """Tell whether any value is a network."""
    if not has_length(value, 2) or not is_between(value[0], 2, MAX_NODES):
        return False
    n, channels = value
    if not isinstance(channels, tuple) or not 1 <= len(channels) <= MAX_CHANNELS:
        return False
    return all([is_channel(n, channel) for channel in channels])


def is_channel(n, value):
    """Tell whether any value is a channel between two of n nodes."""
    if not has_length(value, 3):
        return False
    source, target, room = value
    if not is_between(source, 0, n - 1) or not is_between(target, 0, n - 1) or source == target:
        return False
    return is_between(room, 1, MAX_ROOM)


def is_table(network, value):
    """Tell whether any value is a routing table of the network, perhaps with dead ends."""
    n, channels = network
    if not has_length(value, n) or not all([has_length(row, n) for row in value]):
        return False
    for u in range(n):
        for d in range(n):
            if not is_rising(value[u][d], len(channels)):
                return False
            if any([u == d or channels[c][0] != u for c in value[u][d]]):
                return False
    return True


def is_end(network, table, d, c):
    """Tell whether the option c for the goal d is a dead end of the table."""
    v = network[1][c][1]
    return v != d and len(table[v][d]) == 0


def has_ends(network, table):
    """Tell whether a table has dead ends."""
    return any([is_end(network, table, d, c) for row in table for d, cell in enumerate(row) for c in cell])


def is_state(network, table, value):
    """Tell whether any value is a state of the fabric."""
    channels = network[1]
    if not has_length(value, 2) or not is_between(value[0], 0, None) or not has_length(value[1], len(channels)):
        return False
    count, queues = value
    seen = set()
    many = 0
    for c, queue in enumerate(queues):
        if not isinstance(queue, tuple) or len(queue) > channels[c][2]:
            return False
        for packet in queue:
            if not has_length(packet, 2) or not is_between(packet[0], 0, count - 1):
                return False
            if not is_placement(network, table, c, packet[1]):
                return False
            seen.add(packet[0])
        many += len(queue)
    return len(seen) == many


def is_placement(network, table, c, value):
    """Tell whether any value is a goal for which the channel c is an option at its source."""
    n, channels = network
    return is_between(value, 0, n - 1) and c in table[channels[c][0]][value]


def is_ranks(case, value):
    """Tell whether any value is ranks of the case."""
    (n, channels), table, onward = case
    if not has_length(value, len(channels)) or not all([is_between(rank, 0, None) for rank in value]):
        return False
    for d in range(n):
        # Where packets for d arrive that are not home, there are options in a case.
        least = [min([value[option] for option in row[d]], default=None) for row in onward]
        arriving = [(c, channels[c][1]) for row in table for c in row[d]]
        if any([v != d and least[v] >= value[c] for c, v in arriving]):
            return False
    return True


def is_knot(case, value):
    """Tell whether any value is a knot of the case."""
    (_, channels), table, onward = case
    if not isinstance(value, tuple) or len(value) == 0:
        return False
    if not all([has_length(pair, 2) for pair in value]) or not is_rising(tuple([c for c, _ in value]), len(channels)):
        return False
    held = {c for c, _ in value}
    for c, d in value:
        v = channels[c][1]
        if not is_placement(case[0], table, c, d) or v == d:
            return False
        if any([option not in held for option in onward[v][d]]):
            return False
    return True


def is_stop(network, table, state, c, value):
    """Tell whether any value is a stop for a channel that is not empty."""
    channels = network[1]
    if not is_rising(value, len(channels)):
        return False
    for member in value:
        if len(state[1][member]) < channels[member][2] or not waits_for(network, table, state, member, value):
            return False
    # A channel of the jam has been looked at already; another one need not be full.
    return waits_for(network, table, state, c, value)


def waits_for(network, table, state, c, some):
    """Tell whether the first packet of a channel is not at home and has all its options among some channels."""
    v = network[1][c][1]
    d = state[1][c][0][1]
    held = set(some)
    return v != d and all([option in held for option in table[v][d]])


def is_way_out(network, table, state, c, value):
    """Tell whether any value is a way out for a channel that is not empty."""
    if not isinstance(value, tuple) or len(value) == 0:
        return False
    if not all([is_move(network, step) for step in value]):
        return False
    if value[-1][1] != c or any([step[1] == c for step in value[:-1]]):
        return False
    goals = [tuple([d for _, d in queue]) for queue in state[1]]
    for step in value:
        if not is_possible(network, table, goals, step):
            return False
        start = step[1]
        if step[0] == "go":
            goals[step[2]] = goals[step[2]] + goals[start][:1]
        goals[start] = goals[start][1:]
    return True


def is_move(network, value):
    """Tell whether any value has the form of a step go or out between channels."""
    many = len(network[1])
    if not isinstance(value, tuple) or len(value) not in (2, 3):
        return False
    if value[0] != ("go" if len(value) == 3 else "out"):
        return False
    return all([is_between(c, 0, many - 1) for c in value[1:]])


def is_possible(network, table, goals, move):
    """Tell whether a step go or out is possible if the packets in the channels have these goals."""
    channels = network[1]
    c = move[1]
    if not goals[c]:
        return False
    d = goals[c][0]
    v = channels[c][1]
    if move[0] == "out":
        return v == d
    c2 = move[2]
    return c2 in table[v][d] and len(goals[c2]) < channels[c2][2]


def is_case(network, table, onward):
    """Tell whether two tables of a network, the second one a part of the first one, are those of a case."""
    n, channels = network
    ends = [(channels[c][1], d) for u in range(n) for d in range(n) for c in table[u][d]]
    return all([v == d or len(onward[v][d]) > 0 for v, d in ends])


def union_of(table, other):
    """Return the table with the options of both."""
    n = len(table)
    rows = [[tuple(sorted(set(table[u][d] + other[u][d]))) for d in range(n)] for u in range(n)]
    return tuple([tuple(row) for row in rows])


def table_without(network, table, failed):
    """Return the table without the failed channels, thinned."""
    n, channels = network
    gone = set(failed)
    cells = [[[c for c in cell if c not in gone] for cell in row] for row in table]
    thinner = True
    while thinner:
        thinner = False
        for u in range(n):
            for d in range(n):
                left = [c for c in cells[u][d] if channels[c][1] == d or cells[channels[c][1]][d]]
                thinner = thinner or left != cells[u][d]
                cells[u][d] = left
    return tuple([tuple([tuple(cell) for cell in row]) for row in cells])


def edited_table(table, edits, subset):
    """Return the table behind the edits with these indexes."""
    rows = [list(row) for row in table]
    for k in subset:
        word, u, d, c = edits[k]
        others = [option for option in rows[u][d] if option != c]
        rows[u][d] = tuple(sorted(others + [c] if word == "add" else others))
    return tuple([tuple(row) for row in rows])
