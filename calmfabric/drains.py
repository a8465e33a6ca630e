"""Scripts that show what a verdict means: filling the channels of a knot, and draining by ranks."""

from calmfabric.networks import is_home, options


def knot_script(network, knot):
    """Return the script that fills the channels of a knot."""
    channels = network[1]
    return tuple([("put", channels[c][0], d, c) for c, d in knot for _ in range(channels[c][2])])


def drain(fabric, state, ranks):
    """Return the script that brings home all packets, those in channels of lesser rank first."""
    order = sorted([(rank, c) for c, rank in enumerate(ranks)])
    queues = state[1]
    # A packet that has gone to a lesser rank is alone there, so it goes on before all others.
    return tuple([step for _, c in order for _, d in queues[c] for step in steps_home(fabric, ranks, c, d)])


def steps_home(fabric, ranks, c, d):
    """List the steps of a packet in the channel c that go to the first option of lesser rank each time."""
    steps = []
    here = c
    while not is_home(fabric, here, d):
        ahead = [option for option in options(fabric, here, d) if ranks[option] < ranks[here]][0]
        steps.append(("go", here, ahead))
        here = ahead
    steps.append(("out", here))
    return steps
