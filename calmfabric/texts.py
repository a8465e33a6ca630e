"""The text of a fabric."""

from calmfabric.errors import BadText
from calmfabric.networks import MAX_CHANNELS, MAX_NODES, dead_ends, is_cell, is_channel, served
from calmfabric.tables import empty_table, with_cell
from calmfabric.values import is_number

MAX_DIGITS = 7


def print_fabric(fabric):
    """Return the text of a fabric."""
    (n, channels), table = fabric
    lines = [f"nodes {n}"]
    lines.extend([f"channel {source} {target} {room}" for source, target, room in channels])
    lines.extend([print_cell(u, d, table[u][d]) for u, d in served(fabric)])
    return "\n".join(lines)


def print_cell(u, d, cell):
    """Return the line of the options at the node u for the goal d."""
    words = " ".join([str(c) for c in cell])
    return f"at {u} to {d} : {words}"


def read_fabric(text):
    """Return the fabric of a text; raise BadText for a text that print_fabric does not print."""
    lines = [line.split(" ") for line in text.split("\n")]
    n = read_nodes(lines[0])
    channels = read_channels(n, lines)
    network = (n, channels)
    cells = read_cells(network, lines)
    table = empty_table(network)
    for u, d in cells:
        table = with_cell(table, u, d, cells[u, d])
    ends = dead_ends(network, table)
    if ends:
        u, d, _ = ends[0]
        raise BadText(len(channels) + 2 + list(cells).index((u, d)))
    return (network, table)


def read_nodes(words):
    """Return the number of nodes from the words of the first line."""
    if len(words) != 2 or words[0] != "nodes":
        raise BadText(1)
    n = read_number(words[1])
    if not is_number(n, 2, MAX_NODES):
        raise BadText(1)
    return n


def read_channels(n, lines):
    """Return the channels from the words of all lines, as a tuple."""
    channels = []
    for words in lines[1:MAX_CHANNELS + 1]:
        if words[0] != "channel":
            break
        channel = tuple([read_number(word) for word in words[1:]])
        if not is_channel(n, channel):
            raise BadText(len(channels) + 2)
        channels.append(channel)
    # The second line is wrong if it is of another kind, and also if there is none.
    if not channels:
        raise BadText(2)
    return tuple(channels)


def read_cells(network, lines):
    """Return a dict of the options by pairs (u, d), from the words of all lines."""
    cells = {}
    last = (-1, -1)
    for k in range(len(network[1]) + 1, len(lines)):
        pair, cell = read_cell(network, lines[k], k + 1)
        if pair <= last:
            raise BadText(k + 1)
        cells[pair] = cell
        last = pair
    return cells


def read_cell(network, words, line):
    """Return the pair (u, d) and its options from the words of a line with this number."""
    if len(words) < 6 or words[:5:2] != ["at", "to", ":"]:
        raise BadText(line)
    n = network[0]
    u = read_number(words[1])
    d = read_number(words[3])
    cell = tuple([read_number(word) for word in words[5:]])
    if not is_number(u, 0, n - 1) or not is_number(d, 0, n - 1) or not is_cell(network, u, d, cell):
        raise BadText(line)
    return (u, d), cell


def read_number(word):
    """Return the number that is written so, or None if there is none of at most MAX_DIGITS digits."""
    # Python refuses to read numbers of thousands of digits, and longer ones are never allowed.
    if len(word) > MAX_DIGITS or not word.isdecimal():
        return None
    number = int(word)
    # Leading zeros are not printed.
    return number if str(number) == word else None
