"""Changes of routing tables and fabrics."""


def empty_table(network):
    """Return the table without options."""
    n = network[0]
    return (((),) * n,) * n


def with_option(table, u, d, c):
    """Return the table with the option c at the node u for the goal d."""
    return with_cell(table, u, d, merged(table[u][d], (c,)))


def without_option(table, u, d, c):
    """Return the table without the option c at the node u for the goal d."""
    return with_cell(table, u, d, tuple([option for option in table[u][d] if option != c]))


def with_cell(table, u, d, cell):
    """Return the table with these options at the node u for the goal d."""
    row = table[u][:d] + (cell,) + table[u][d + 1:]
    return table[:u] + (row,) + table[u + 1:]


def merged(cell, other):
    """Return the options of both, ascending."""
    return tuple(sorted(set(cell + other)))


def thinned(network, table):
    """Return the table without the options that are dead ends, again and again."""
    # A dead end for one goal says nothing of the other goals.
    columns = [thinned_column(network, d, [row[d] for row in table]) for d in range(len(table))]
    return tuple([tuple([column[u] for column in columns]) for u in range(len(table))])


def thinned_column(network, d, column):
    """Thin the options of all nodes for the goal d."""
    left = column
    before = []
    while left != before:
        before = left
        left = [going_on(network, d, before, cell) for cell in before]
    return left


def going_on(network, d, column, cell):
    """Return the options of the cell that are no dead ends for the goal d."""
    channels = network[1]
    return tuple([c for c in cell if channels[c][1] == d or column[channels[c][1]]])


def without_channels(fabric, channels):
    """Return the fabric in which these channels are no options."""
    network, table = fabric
    gone = set(channels)
    left = [tuple([tuple([c for c in cell if c not in gone]) for cell in row]) for row in table]
    return (network, thinned(network, tuple(left)))


def union(table, other):
    """Return the table with the options of both."""
    return tuple([united_row(row, also) for row, also in zip(table, other)])


def united_row(row, other):
    """Return the row with the options of both."""
    return tuple([merged(cell, also) for cell, also in zip(row, other)])


def renamed(fabric, nodes, channels):
    """Return the fabric in which node u is called nodes[u] and channel c channels[c]."""
    (n, old), table = fabric
    was_node = undone(nodes)
    moved = [old[c] for c in undone(channels)]
    network = (n, tuple([(nodes[source], nodes[target], room) for source, target, room in moved]))
    rows = [[renamed_cell(table[u][d], channels) for d in was_node] for u in was_node]
    return (network, tuple([tuple(row) for row in rows]))


def undone(arrangement):
    """Return the arrangement that undoes this one."""
    back = [0] * len(arrangement)
    for k, name in enumerate(arrangement):
        back[name] = k
    return back


def renamed_cell(cell, channels):
    """Return the options by their new numbers, ascending."""
    return tuple(sorted([channels[c] for c in cell]))
