"""Worms: long packets that are in several channels at once."""

from calmfabric.values import are_below, is_from, is_number, is_tuple_of
from calmfabric.ways import are_linked

MAX_FLITS = 1000000

NUMBERS_OF_WORM_STEPS = {"put": 4, "open": 2, "pull": 2, "feed": 1, "take": 1}


def empty_worms():
    """Return the worm state in which no worm has been put."""
    return (0, ())


def is_worm(fabric, value):
    """Tell whether any value is a worm."""
    n = fabric[0][0]
    if not is_tuple_of(value, 6):
        return False
    number, goal, left, way, flits, home = value
    if not is_number(goal, 0, n - 1) or not all([is_from(told, 0) for told in (number, left, home)]):
        return False
    if not is_row_for(fabric, goal, way) or not are_flits_in(fabric, way, flits):
        return False
    if worm_length(value) > MAX_FLITS or left + flits[0] == 0:
        return False
    if is_at_goal(fabric, value):
        return flits[-1] + home > 0
    return flits[-1] > 0 and home == 0


def is_row_for(fabric, goal, value):
    """Tell whether any value is a row of different channels, each an option for the goal where the one before ends."""
    channels = fabric[0][1]
    table = fabric[1]
    if not are_below(value, len(channels)) or not value or len(set(value)) != len(value):
        return False
    source = channels[value[0]][0]
    return value[0] in table[source][goal] and are_linked(fabric, goal, value)


def are_flits_in(fabric, way, value):
    """Tell whether any value tells how many flits are in each channel of a way, no more than there is room."""
    channels = fabric[0][1]
    if not is_tuple_of(value, len(way)):
        return False
    return all([is_number(many, 0, channels[c][2]) for c, many in zip(way, value)])


def is_at_goal(fabric, worm):
    """Tell whether a worm is at its goal."""
    channels = fabric[0][1]
    return channels[worm[3][-1]][1] == worm[1]


def worm_length(worm):
    """Return the number of all flits of a worm."""
    _, _, left, _, flits, home = worm
    return left + sum(flits) + home


def is_worm_state(fabric, value):
    """Tell whether any value is a worm state."""
    if not is_tuple_of(value, 2):
        return False
    count, worms = value
    if not is_from(count, 0) or not isinstance(worms, tuple):
        return False
    if not all([is_worm(fabric, worm) for worm in worms]):
        return False
    numbers = [worm[0] for worm in worms] + [count]
    if not all([numbers[k] < numbers[k + 1] for k in range(len(worms))]):
        return False
    held = held_channels(worms)
    return len(set(held)) == len(held)


def held_channels(worms):
    """List the channels that some worms hold."""
    return [c for worm in worms for c in worm[3]]


def is_worm_step(value):
    """Tell whether any value has the form of a worm step."""
    if not isinstance(value, tuple) or not value or not isinstance(value[0], str):
        return False
    if len(value) - 1 != NUMBERS_OF_WORM_STEPS.get(value[0]):
        return False
    return all([is_from(number, 0) for number in value[1:]])


def holder(state, c):
    """Return the worm that holds a channel, or None."""
    for worm in state[1]:
        if c in worm[3]:
            return worm
    return None


def free_channels(fabric, state):
    """List the channels that no worm holds, ascending."""
    held = set(held_channels(state[1]))
    return [c for c in range(len(fabric[0][1])) if c not in held]
