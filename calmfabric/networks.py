"""Networks, routing tables and fabrics."""

from calmfabric.values import is_number, is_tuple_of

MAX_NODES = 64
MAX_CHANNELS = 400
MAX_ROOM = 1000


def is_network(value):
    """Tell whether any value is a network."""
    if not is_tuple_of(value, 2):
        return False
    n, channels = value
    if not is_number(n, 2, MAX_NODES) or not isinstance(channels, tuple):
        return False
    if not 1 <= len(channels) <= MAX_CHANNELS:
        return False
    return all([is_channel(n, channel) for channel in channels])


def is_channel(n, value):
    """Tell whether any value is a channel of a network with n nodes."""
    if not is_tuple_of(value, 3):
        return False
    source, target, room = value
    if not is_number(source, 0, n - 1) or not is_number(target, 0, n - 1):
        return False
    return source != target and is_number(room, 1, MAX_ROOM)


def is_table(network, value):
    """Tell whether any value is a routing table of the network, with or without dead ends."""
    n = network[0]
    if not is_tuple_of(value, n):
        return False
    return all([is_row(network, u, value[u]) for u in range(n)])


def is_row(network, u, value):
    """Tell whether any value may be the row of the node u."""
    n = network[0]
    if not is_tuple_of(value, n):
        return False
    return all([is_cell(network, u, d, value[d]) for d in range(n)])


def is_cell(network, u, d, value):
    """Tell whether any value may be the options at the node u for the goal d."""
    if not isinstance(value, tuple):
        return False
    if u == d:
        return len(value) == 0
    channels = network[1]
    least = 0
    for c in value:
        if not is_number(c, least, len(channels) - 1) or channels[c][0] != u:
            return False
        least = c + 1
    return True


def is_fabric(value):
    """Tell whether any value is a fabric."""
    if not is_tuple_of(value, 2):
        return False
    network, table = value
    return is_network(network) and is_table(network, table) and not dead_ends(network, table)


def dead_ends(network, table):
    """List the dead ends (u, d, c) of a table, ascending."""
    channels = network[1]
    found = []
    for u, row in enumerate(table):
        for d, cell in enumerate(row):
            for c in cell:
                v = channels[c][1]
                if v != d and not table[v][d]:
                    found.append((u, d, c))
    return found


def placements(fabric):
    """List the placements (c, d) of a fabric, ascending."""
    table = fabric[1]
    return sorted([(c, d) for row in table for d, cell in enumerate(row) for c in cell])


def options(fabric, c, d):
    """Return the options of a placement."""
    channels = fabric[0][1]
    table = fabric[1]
    target = channels[c][1]
    return table[target][d]


def is_home(fabric, c, d):
    """Tell whether a placement is home."""
    channels = fabric[0][1]
    return channels[c][1] == d


def served(fabric):
    """List the pairs (u, d) that have options, ascending."""
    table = fabric[1]
    return [(u, d) for u, row in enumerate(table) for d, cell in enumerate(row) if cell]


def is_full(fabric):
    """Tell whether all pairs of two different nodes are served."""
    n = fabric[0][0]
    return len(served(fabric)) == n * (n - 1)
