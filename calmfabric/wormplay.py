"""Worms in a fabric, step by step."""

from calmfabric.errors import NotAllowed, NotPossible
from calmfabric.networks import options
from calmfabric.worms import MAX_FLITS, free_channels, holder, is_at_goal, is_worm_step


def is_worm_possible(fabric, state, step):
    """Tell whether a step is possible in a worm state."""
    if not is_worm_step(step):
        return False
    if step[0] == "put":
        return can_enter(fabric, state, step)
    worm = holder(state, step[1])
    if worm is None:
        return False
    if step[0] == "open":
        return step[1] == worm[3][-1] and can_lead_to(fabric, state, worm, step[2])
    return can_shift(fabric, worm, step)


def can_enter(fabric, state, step):
    """Tell whether a step put is possible."""
    (n, _), table = fabric
    _, u, d, c, length = step
    if u >= n or d >= n or c not in table[u][d]:
        return False
    return 1 <= length <= MAX_FLITS and holder(state, c) is None


def can_lead_to(fabric, state, worm, c):
    """Tell whether the head of a worm can open the channel c."""
    # At its goal a worm has no options.
    _, goal, _, way, _, _ = worm
    return c in options(fabric, way[-1], goal) and holder(state, c) is None


def can_shift(fabric, worm, step):
    """Tell whether a step pull, feed or take from a channel of the worm is possible."""
    _, _, left, way, flits, _ = worm
    word, c = step[:2]
    if word == "feed":
        return c == way[0] and left > 0 and has_room(fabric, worm, 0)
    if word == "take":
        return c == way[-1] and is_at_goal(fabric, worm) and flits[-1] > 0
    k = way.index(c)
    return way[k + 1:k + 2] == step[2:] and flits[k] > 0 and has_room(fabric, worm, k + 1)


def has_room(fabric, worm, k):
    """Tell whether the channel k of the way of a worm has room for one more flit."""
    channels = fabric[0][1]
    return worm[4][k] < channels[worm[3][k]][2]


def possible_worm_steps(fabric, state, lengths):
    """List all possible steps: all put, then all open, pull, feed, take, each ascending."""
    table = fabric[1]
    free = set(free_channels(fabric, state))
    sizes = sorted(set(lengths))
    doors = [(u, d, c) for u, row in enumerate(table) for d, cell in enumerate(row) for c in cell if c in free]
    steps = [("put", u, d, c, size) for u, d, c in doors for size in sizes]
    heads = sorted([(worm[3][-1], worm[1]) for worm in state[1]])
    steps.extend([("open", c, option) for c, goal in heads for option in options(fabric, c, goal)])
    ways = [worm[3] for worm in state[1]]
    steps.extend(sorted([("pull", way[k], way[k + 1]) for way in ways for k in range(len(way) - 1)]))
    steps.extend(sorted([("feed", way[0]) for way in ways]))
    steps.extend([("take", c) for c, _ in heads])
    return [step for step in steps if is_worm_possible(fabric, state, step)]


def worm_after(fabric, state, step):
    """Return the state behind a possible step; raise NotAllowed if it is not possible."""
    if not is_worm_possible(fabric, state, step):
        raise NotAllowed("the step is not possible")
    return behind(state, step)


def behind(state, step):
    """Return the state behind a possible step."""
    count, worms = state
    if step[0] == "put":
        _, _, d, c, length = step
        return (count + 1, worms + ((count, d, length - 1, (c,), (1,), 0),))
    touched = holder(state, step[1])
    changed = [moved(worm, step) if worm == touched else worm for worm in worms]
    # A worm without channels is over.
    return (count, tuple([worm for worm in changed if worm[3]]))


def moved(worm, step):
    """Return the worm behind a possible step other than put; if it is over, it has no channels."""
    number, goal, left, way, flits, home = worm
    word, c = step[:2]
    k = way.index(c)
    if word == "feed":
        return (number, goal, left - 1, way, with_flits(flits, k, 1), home)
    fewer = with_flits(flits, k, -1)
    if word == "take":
        return released((number, goal, left, way, fewer, home + 1))
    if word == "open":
        return released((number, goal, left, way + step[2:], fewer + (1,), home))
    return released((number, goal, left, way, with_flits(fewer, k + 1, 1), home))


def with_flits(flits, k, more):
    """Return how many flits are in each channel if there are so many more in the channel k of the way."""
    return flits[:k] + (flits[k] + more,) + flits[k + 1:]


def released(worm):
    """Return the worm without the channels that it releases."""
    number, goal, left, way, flits, home = worm
    k = 0
    while left == 0 and k < len(way) and flits[k] == 0:
        k += 1
    return (number, goal, left, way[k:], flits[k:], home)


def play_worms(fabric, state, script):
    """Return the last state of a worm script; raise NotPossible for the first step that is not possible."""
    now = state
    for k, step in enumerate(script):
        if not is_worm_possible(fabric, now, step):
            raise NotPossible(k)
        now = behind(now, step)
    return now


def gather(fabric, state):
    """Return the script that gathers the flits of each worm behind its head."""
    return tuple([step for worm in state[1] for step in gathering(fabric, worm)])


def gathering(fabric, worm):
    """List the steps by which the flits of a worm go ahead as long as some can."""
    steps = []
    now = worm
    step = foremost_step(fabric, now)
    while step is not None:
        steps.append(step)
        now = moved(now, step)
        step = foremost_step(fabric, now)
    return steps


def foremost_step(fabric, worm):
    """Return the first possible one of the pulls, from the head backwards, and feed; None if there is none."""
    way = worm[3]
    steps = [("pull", way[k - 1], way[k]) for k in range(len(way) - 1, 0, -1)] + [("feed", way[0])]
    for step in steps:
        if can_shift(fabric, worm, step):
            return step
    return None
