"""Ranks for the tables of known forms."""

from calmfabric.frames import link_of, place_of
from calmfabric.networks import is_home, options, placements
from calmfabric.routings import channels_of, mesh_network, plane_network, positions, torus_network
from calmfabric.values import is_from, is_tuple_of


def dimension_ranks(sizes, lanes):
    """Return ranks for dimension_order."""
    network = mesh_network(sizes, lanes)
    return tuple([dimension_rank(sizes, u, v) for u, v, _ in network[1]])


def dimension_rank(sizes, u, v):
    """Return the rank of a channel from u to v."""
    place, i, raises = turn_of(sizes, u, v)
    return (len(sizes) - 1 - i) * max(sizes) + places_left(place[i], raises, sizes[i])


def places_left(coordinate, raises, size):
    """Return how often a coordinate could be raised, or else lowered, up to the end of its row."""
    return size - 1 - coordinate if raises else coordinate


def turn_of(sizes, u, v):
    """Return the place of u, the coordinate that a channel from u to v changes, and whether it raises it."""
    place = place_of(sizes, u)
    steps = [there - here for here, there in zip(place, place_of(sizes, v))]
    i = [k for k, step in enumerate(steps) if step != 0][0]
    # From the end of a row of three or more to its beginning is upwards, too, and back is downwards.
    return (place, i, steps[i] == 1 or steps[i] < -1)


def dateline_ranks(sizes, lanes):
    """Return ranks for dateline."""
    network = torus_network(sizes, lanes)
    return tuple([dateline_rank(sizes, u, v, link_of(lanes, c)[2]) for c, (u, v, _) in enumerate(network[1])])


def dateline_rank(sizes, u, v, lane):
    """Return the rank of a channel from u to v in this lane."""
    if lane >= 2:
        return 0
    place, i, raises = turn_of(sizes, u, v)
    size = sizes[i]
    return (len(sizes) - 1 - i) * 2 * max(sizes) + size * lane + places_left(place[i], raises, size)


def negative_ranks(sizes, lanes):
    """Return ranks for negative_first."""
    network = mesh_network(sizes, lanes)
    return tuple([negative_rank(sizes, u, v) for u, v, _ in network[1]])


def negative_rank(sizes, u, v):
    """Return the rank of a channel from u to v."""
    place, _, raises = turn_of(sizes, u, v)
    return sum(sizes) - sum(place) if raises else sum(sizes) + 1 + sum(place)


def west_ranks(sizes, lanes):
    """Return ranks for west_first."""
    network = plane_network(sizes, lanes)
    return tuple([west_rank(sizes, u, v) for u, v, _ in network[1]])


def west_rank(sizes, u, v):
    """Return the rank of a channel from u to v."""
    a, b = sizes
    (x, y), i, raises = turn_of(sizes, u, v)
    if i == 1:
        return (b - 1 - y) * (a + 1) if raises else (a + 1) * b + y
    return (b - 1 - y) * (a + 1) + (a - x if raises else 1 + x)


def north_ranks(sizes, lanes):
    """Return ranks for north_last."""
    network = plane_network(sizes, lanes)
    return tuple([north_rank(sizes, u, v) for u, v, _ in network[1]])


def north_rank(sizes, u, v):
    """Return the rank of a channel from u to v."""
    a, b = sizes
    (x, y), i, raises = turn_of(sizes, u, v)
    if i == 0:
        return a - 1 - x if raises else a + x * (b + 1)
    return a + x * (b + 1) + (b - y if raises else 1 + y)


def up_down_ranks(network, root):
    """Return ranks for up_down."""
    n, channels = network
    position = positions(network, root)
    return tuple([up_down_rank(n, position[u], position[v]) for u, v, _ in channels])


def up_down_rank(n, source, target):
    """Return the rank of a channel between nodes with these positions."""
    return n + source if target < source else n - 1 - source


def escape_ranks(network, base, ranks):
    """Return ranks for with_escape from those of its base."""
    own = set(channels_of(base))
    above = 1 + max([ranks[c] for c in channels_of(base)], default=0)
    return tuple([ranks[c] if c in own else above for c in range(len(network[1]))])


def are_ranks(network, table, value):
    """Tell whether any value is a tuple of ranks for the table."""
    channels = network[1]
    if not is_tuple_of(value, len(channels)):
        return False
    if not all([is_from(rank, 0) for rank in value]):
        return False
    fabric = (network, table)
    return all([goes_down(fabric, value, c, d) for c, d in placements(fabric)])


def goes_down(fabric, ranks, c, d):
    """Tell whether a placement is home or has an option with a lesser rank than its channel."""
    if is_home(fabric, c, d):
        return True
    return any([ranks[option] < ranks[c] for option in options(fabric, c, d)])
