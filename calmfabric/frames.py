"""Networks of known forms: frames, and the networks with lanes that belong to them."""

from calmfabric.errors import NotAllowed
from calmfabric.networks import MAX_CHANNELS, MAX_NODES, MAX_ROOM
from calmfabric.values import is_number, is_tuple_of

MAX_LANES = 8
MAX_SIZES = 6
MAX_SIZE = 64


def is_frame(value):
    """Tell whether any value is a frame."""
    if not is_tuple_of(value, 2):
        return False
    n, links = value
    if not is_number(n, 2, MAX_NODES) or not isinstance(links, tuple) or not links:
        return False
    if not all([is_link(n, link) for link in links]):
        return False
    return all([links[k] < links[k + 1] for k in range(len(links) - 1)])


def is_link(n, value):
    """Tell whether any value is a link of two of n nodes."""
    if not is_tuple_of(value, 2):
        return False
    u, v = value
    return is_number(u, 0, n - 1) and is_number(v, 0, n - 1) and u < v


def line(n):
    """Return the frame of n nodes in a row."""
    demand(n, 2, MAX_NODES)
    return frame_of(n, row_links(n))


def ring(n):
    """Return the frame of n nodes in a row whose ends are linked."""
    demand(n, 3, MAX_NODES)
    return frame_of(n, row_links(n) + [(0, n - 1)])


def complete(n):
    """Return the frame of n nodes with all links."""
    demand(n, 2, MAX_NODES)
    return frame_of(n, [(u, v) for v in range(n) for u in range(v)])


def star(n):
    """Return the frame of n nodes, all linked with the node 0."""
    demand(n, 2, MAX_NODES)
    return frame_of(n, [(0, i) for i in range(1, n)])


def tree(parents):
    """Return the frame in which the node i + 1 has the parent parents[i]."""
    n = len(parents) + 1
    demand(n, 2, MAX_NODES)
    for i, parent in enumerate(parents):
        demand(parent, 0, i)
    return frame_of(n, [(parent, i + 1) for i, parent in enumerate(parents)])


def mesh(sizes):
    """Return the frame of the places with these sizes, linked with their neighbours."""
    n = count_places(sizes)
    return frame_of(n, mesh_links(sizes, n))


def torus(sizes):
    """Return the frame of a mesh in which the ends of rows of three and more are linked, too."""
    n = count_places(sizes)
    return frame_of(n, mesh_links(sizes, n) + end_links(sizes, n))


def groups(count, size):
    """Return the frame of groups of nodes: all links within each, and one link for two of them."""
    demand(count, 2, MAX_NODES)
    demand(size, 1, MAX_NODES)
    n = count * size
    demand(n, 2, MAX_NODES)
    inside = [(u, v) for v in range(n) for u in range(v - v % size, v)]
    across = [(h * size + (i - 1) % size, i * size + h % size) for i in range(count) for h in range(i)]
    return frame_of(n, inside + across)


def demand(number, low, high):
    """Raise NotAllowed if this is not a number from low to high."""
    # The number is not told in the message: Python refuses to write very great ones.
    if not is_number(number, low, high):
        raise NotAllowed("a number is too small or too great")


def frame_of(n, links):
    """Return the frame with these links; raise NotAllowed if they are too many."""
    demand(2 * len(links), 1, MAX_CHANNELS)
    return (n, tuple(sorted(links)))


def row_links(n):
    """List the links of n nodes in a row."""
    return [(i, i + 1) for i in range(n - 1)]


def count_places(sizes):
    """Return the number of places with these sizes; raise NotAllowed if there can be no such mesh."""
    demand(len(sizes), 1, MAX_SIZES)
    n = 1
    for size in sizes:
        demand(size, 1, MAX_SIZE)
        n = n * size
    demand(n, 2, MAX_NODES)
    return n


def mesh_links(sizes, n):
    """List the links of the n places that differ by 1 at one coordinate."""
    links = []
    for u in range(n):
        place = place_of(sizes, u)
        for i, size in enumerate(sizes):
            if place[i] + 1 < size:
                links.append((u, node_at(sizes, placed(place, i, place[i] + 1))))
    return links


def end_links(sizes, n):
    """List the links of the n places that are the two ends of a row of at least three."""
    links = []
    for u in range(n):
        place = place_of(sizes, u)
        for i, size in enumerate(sizes):
            # The ends of a row of two are linked already.
            if place[i] == 0 and size >= 3:
                links.append((u, node_at(sizes, placed(place, i, size - 1))))
    return links


def placed(place, i, coordinate):
    """Return the place with another coordinate i."""
    return place[:i] + (coordinate,) + place[i + 1:]


def node_at(sizes, place):
    """Return the node of a place of a mesh."""
    node = 0
    for size, coordinate in zip(sizes, place):
        node = node * size + coordinate
    return node


def place_of(sizes, node):
    """Return the place of a node of a mesh."""
    backwards = []
    rest = node
    for size in reversed(sizes):
        backwards.append(rest % size)
        rest = rest // size
    return tuple(backwards[::-1])


def network_of(frame, lanes, room):
    """Return the network of a frame, with so many lanes for each direction of a link."""
    n, links = frame
    demand(n, 2, MAX_NODES)
    demand(lanes, 1, MAX_LANES)
    demand(room, 1, MAX_ROOM)
    demand(2 * lanes * len(links), 1, MAX_CHANNELS)
    channels = []
    for u, v in links:
        channels.extend([(u, v, room)] * lanes)
        channels.extend([(v, u, room)] * lanes)
    return (n, tuple(channels))


def channel_number(lanes, link, direction, lane):
    """Return the number of the channel in this lane and direction of the link with this index."""
    return (2 * link + direction) * lanes + lane


def link_of(lanes, c):
    """Return the index of the link, the direction and the lane of a channel."""
    way = c // lanes
    return (way // 2, way % 2, c % lanes)
