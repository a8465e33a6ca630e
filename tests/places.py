"""Frames and sizes for the tests, and places, links and distances, worked out plainly."""

import itertools

from calmfabric.frames import complete, groups, line, mesh, ring, star, torus, tree

# Each with a number of nodes that is allowed, one to six of them, some of them 1.
SIZES = (
    (2,), (3,), (4,), (5,), (64,), (1, 2), (3, 1), (2, 2), (2, 3), (3, 2), (4, 3), (5, 5), (8, 8), (1, 4, 1), (2, 1, 3),
    (3, 3, 3), (4, 4, 4), (3, 3, 7), (2, 3, 2, 2), (1, 2, 1, 3, 1), (2, 2, 2, 2, 2), (1, 1, 1, 1, 1, 2), (2, 2, 2, 2, 2, 2),
)
SMALL_SIZES = tuple(sizes for sizes in SIZES if len(list(itertools.product(*map(range, sizes)))) <= 27)

PLANES = tuple(sizes for sizes in SIZES if len(sizes) == 2)
TORI = ((1, 2), (2,), (3,), (4,), (5,), (6,), (7,), (2, 2), (1, 3), (3, 3), (4, 2), (2, 4), (5, 4), (3, 2, 4), (4, 1, 3))
FRAMES = (
    line(2), line(6), ring(3), ring(8), star(2), star(7), complete(5), tree((0, 0, 1, 1, 2, 3)), tree((0, 1, 2, 3, 0)),
    mesh((3, 4)), mesh((2, 2, 2)), torus((3, 4)), groups(3, 3), groups(5, 2), groups(2, 4),
    (5, ((0, 4), (1, 3), (1, 4), (2, 3))),
)


def places_of(sizes):
    """All places; their indexes are their nodes."""
    return list(itertools.product(*[range(size) for size in sizes]))


def differences(place, other):
    """The coordinates at which two places differ, with the other's minus the one's."""
    return [(i, y - x) for i, (x, y) in enumerate(zip(place, other)) if x != y]


def plain_mesh(sizes):
    places = places_of(sizes)
    pairs = itertools.combinations(range(len(places)), 2)
    return [(u, v) for u, v in pairs if [abs(by) for _, by in differences(places[u], places[v])] == [1]]


def plain_torus(sizes):
    places = places_of(sizes)
    links = []
    for u, v in itertools.combinations(range(len(places)), 2):
        found = differences(places[u], places[v])
        if len(found) == 1:
            i, by = found[0]
            if abs(by) == 1 or sizes[i] >= 3 and abs(by) == sizes[i] - 1:
                links.append((u, v))
    return links


def plain_network(n, links, lanes, room=1):
    channels = []
    for u, v in links:
        channels += [(u, v, room) for _ in range(lanes)]
        channels += [(v, u, room) for _ in range(lanes)]
    return (n, tuple(channels))


def plain_distances(network):
    """All distances, by bringing every two of them together until nothing changes any more."""
    n, channels = network
    far = [[0 if u == d else None for d in range(n)] for u in range(n)]
    for u, v, _ in channels:
        far[u][v] = 1
    for w, u, d in itertools.product(range(n), repeat=3):
        if far[u][w] is not None and far[w][d] is not None:
            if far[u][d] is None or far[u][w] + far[w][d] < far[u][d]:
                far[u][d] = far[u][w] + far[w][d]
    return tuple(tuple(row) for row in far)


def lanes_for(sizes, links):
    """Some numbers of lanes with which the network is allowed."""
    return [lanes for lanes in (1, 2, 3, 8) if 2 * lanes * len(links) <= 400]
