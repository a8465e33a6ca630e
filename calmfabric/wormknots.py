"""Worm knots: worms that wait for each other for ever, and from which length on there are any."""

from calmfabric.networks import is_home
from calmfabric.values import is_tuple_of
from calmfabric.wormtrees import searched, worm_verdict
from calmfabric.wormways import is_way, least_length, way_options


def is_worm_knot(fabric, longest, value):
    """Tell whether any value is a worm knot for worms of at most this length."""
    if not isinstance(value, tuple) or not value:
        return False
    if not all([is_waiting_way(fabric, longest, pair) for pair in value]):
        return False
    if not all([value[k] < value[k + 1] for k in range(len(value) - 1)]):
        return False
    held = [c for _, way in value for c in way]
    inside = set(held)
    if len(inside) != len(held):
        return False
    return all([option in inside for d, way in value for option in way_options(fabric, d, way)])


def is_waiting_way(fabric, longest, value):
    """Tell whether any value is a pair of a goal and a way for it on which a worm of this length may wait."""
    if not is_tuple_of(value, 2):
        return False
    d, way = value
    if not is_way(fabric, d, way) or is_home(fabric, way[-1], d):
        return False
    return least_length(fabric[0], way) <= longest


def worm_knot_script(network, knot):
    """Return the script by which the worms of a worm knot take their channels."""
    channels = network[1]
    steps = []
    for d, way in knot:
        steps.append(("put", channels[way[0]][0], d, way[0], least_length(network, way)))
        steps.extend([("open", way[k], way[k + 1]) for k in range(len(way) - 1)])
    return tuple(steps)


def find_worm_knot(fabric, longest):
    """Return a worm knot for worms of at most this length, or None."""
    word, told = worm_verdict(fabric, longest)
    return told if word == "knot" else None


def critical_length(fabric):
    """Return the least length of worms for which there is a worm knot, or None if there is none for any."""
    # No way is longer than one through all channels.
    most = 1 + sum([room for _, _, room in fabric[0][1]])
    calm = 0
    tried = 1
    knot = find_worm_knot(fabric, tried)
    while knot is None and tried < most:
        calm = tried
        # Short worms have few ways, so small lengths are tried first.
        tried = min(2 * tried, most)
        knot = knot_up_to(fabric, tried)
    return None if knot is None else least_between(fabric, calm, knot)


def knot_up_to(fabric, longest):
    """Return a worm knot for worms of at most this length, or None; shorter worms are not tried first."""
    word, told = searched(fabric, longest)
    return told if word == "knot" else None


def least_between(fabric, calm, knot):
    """Return the least length for which there is a worm knot, if there is none for the length calm."""
    low = calm
    high = length_of(fabric, knot)
    while low + 1 < high:
        middle = (low + high) // 2
        found = knot_up_to(fabric, middle)
        if found is None:
            low = middle
        else:
            high = length_of(fabric, found)
    return high


def length_of(fabric, knot):
    """Return the least length of worms for which this is a worm knot."""
    return max([least_length(fabric[0], way) for _, way in knot])
