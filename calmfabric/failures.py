"""Channels that fail: what is left, what is lost, and how few failures leave a knot or cut nodes off."""

from itertools import combinations

from calmfabric.cases import case_of
from calmfabric.networks import is_home, options, placements, served
from calmfabric.packets import packets_in
from calmfabric.tables import without_channels
from calmfabric.verdicts import greatest_knot


def after_failure(fabric, state, channels):
    """Return the fabric and the state that are left when channels fail, and the numbers of the lost packets."""
    left = without_channels(fabric, channels)
    count, queues = state
    rest = tuple([() if c in channels else kept_packets(left, c, queue) for c, queue in enumerate(queues)])
    kept = {number for queue in rest for number, _ in queue}
    lost = [number for number, _, _ in packets_in(state) if number not in kept]
    return (left, (count, rest), tuple(lost))


def kept_packets(fabric, c, queue):
    """Return the packets of a channel that did not fail which are not lost in the new fabric."""
    return tuple([(number, d) for number, d in queue if is_home(fabric, c, d) or options(fabric, c, d)])


def cut_off(fabric, channels):
    """List the pairs that are served by the fabric and not without the channels, ascending."""
    left = {pair: True for pair in served(without_channels(fabric, channels))}
    return [pair for pair in served(fabric) if pair not in left]


def least_break(fabric, k):
    """Return the first of the smallest sets of at most k channels without which there is a knot, or None."""
    return least_set(fabric, k, leaves_knot)


def least_cut(fabric, k):
    """Return the first of the smallest sets of at most k channels that cut the fabric, or None."""
    return least_set(fabric, k, cut_off)


def least_set(fabric, k, does_it):
    """Return the first of the smallest sets of at most k channels for which does_it holds, or None."""
    # Without a channel that is no option nothing changes, so no smallest set has one.
    used = sorted({c for c, _ in placements(fabric)})
    for size in range(k + 1):
        for channels in combinations(used, size):
            if does_it(fabric, channels):
                return channels
    return None


def leaves_knot(fabric, channels):
    """Tell whether the fabric has a knot when these channels fail."""
    return greatest_knot(case_of(without_channels(fabric, channels))) is not None
