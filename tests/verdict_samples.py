"""Cases for the tests, and their stages and knots, worked out plainly."""

import functools
import itertools
import random

from samples import FABRICS, greatest, ring
from worlds import EXAMPLE, MESH, TORUS, small_fabric

from calmfabric.frames import mesh, network_of, torus
from calmfabric.routings import dimension_order, in_lanes, north_last, shortest, up_down, with_escape


@functools.lru_cache(maxsize=None)
def small_case(seed):
    """A case with two tables: packets go on by some of the options by which they are put in."""
    rng = random.Random(seed)
    network, table = small_fabric(seed)
    needed = {(network[1][c][1], d) for row in table for d, cell in enumerate(row) for c in cell}
    onward = []
    for u, row in enumerate(table):
        cells = []
        for d, cell in enumerate(row):
            some = tuple(c for c in cell if rng.random() < 0.6)
            cells.append(some if some or (u, d) not in needed or u == d else (rng.choice(cell),))
        onward.append(tuple(cells))
    return (network, table, tuple(onward))


def twice(fabric):
    """The case of a fabric, by the words of [6.1]."""
    return fabric + fabric[1:]


def plain_placements(case):
    (n, channels), table, _ = case
    return [(c, d) for c in range(len(channels)) for d in range(n) if c in table[channels[c][0]][d]]


def plain_waits(case):
    """For each channel its goals that are not home, with the options for them."""
    (_, channels), _, onward = case
    waits = [{} for _ in channels]
    for c, d in plain_placements(case):
        if channels[c][1] != d:
            waits[c][d] = set(onward[channels[c][1]][d])
    return waits


def plain_stages(case):
    """The stages of [6.4] in a dict, without the channels that are left."""
    waits = plain_waits(case)
    left = set(range(len(waits)))
    stages = {}
    stage = 0
    while True:
        out = [c for c in left if not any(cell <= left for cell in waits[c].values())]
        if not out:
            return stages
        for c in out:
            stages[c] = stage
        left -= set(out)
        stage += 1


def plain_knot_sets(case):
    """All sets of channels of knots, by looking at every set."""
    waits = plain_waits(case)
    found = []
    for k in range(1, len(waits) + 1):
        for some in itertools.combinations(range(len(waits)), k):
            if all(any(cell <= set(some) for cell in waits[c].values()) for c in some):
                found.append(some)
    return found


def knot_with(case, some):
    """The knot with these channels, each with its least goal for which all options are among them."""
    waits = plain_waits(case)
    return tuple((c, min(d for d, cell in waits[c].items() if cell <= set(some))) for c in sorted(some))


WIDE = network_of(torus((3, 3)), 2, 2)
LANES = network_of(mesh((3, 3)), 2, 2)
ESCAPE = (LANES, with_escape(
    LANES, in_lanes(LANES, dimension_order((3, 3), 2), 2, (0,)), in_lanes(LANES, shortest(LANES), 2, (1,)),
))
FULL_FABRICS = FABRICS + (EXAMPLE, MESH, TORUS, ESCAPE, (WIDE, shortest(WIDE)), (WIDE, up_down(WIDE, 4)), ring(17), ring(64, 3))
PLANE = (network_of(mesh((4, 3)), 2, 1), north_last((4, 3), 2))
GREAT_CASES = tuple(twice(fabric) for fabric in FULL_FABRICS + (PLANE, greatest()))
SMALL_CASES = tuple(twice(small_fabric(seed)) for seed in range(70)) + tuple(small_case(seed) for seed in range(70))
