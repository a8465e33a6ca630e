"""Changeovers for the tests, and states and scripts in them, worked out plainly."""

import functools
import itertools
import random

from samples import plain_dead_ends, plain_thinned, table_of
from worlds import small_fabric

NETWORK = (3, ((0, 1, 1), (1, 0, 1), (1, 2, 1), (2, 1, 1), (0, 2, 1), (2, 0, 1)))
OLD = (((), (0,), (0,)), ((2,), (), (2,)), ((5,), (3,), ()))
NEW = (((), (0,), (4,)), ((1,), (), (2,)), ((5,), (5,), ()))
CHANGE = (NETWORK, OLD, NEW)


def plain_is_changeover(network, old, new):
    """Whether tables are those of a changeover, by the words of [10.1]."""
    if plain_dead_ends(network, old) or plain_dead_ends(network, new):
        return False
    n, channels = network
    return all(
        channels[c][1] == d or new[channels[c][1]][d] != () for u in range(n) for d in range(n) for c in old[u][d]
    )


@functools.lru_cache(maxsize=None)
def small_change(seed):
    """A changeover of few nodes and channels, with two drawn tables."""
    rng = random.Random(seed)
    network, new = small_fabric(seed)
    n, channels = network
    likely = rng.choice((0.4, 0.6, 0.9))
    cells = {}
    for u, d in itertools.product(range(n), repeat=2):
        if u != d:
            out = [c for c, channel in enumerate(channels) if channel[0] == u]
            # An option of the old table leads to where the new one goes on.
            cells[u, d] = [c for c in out if rng.random() < likely and (channels[c][1] == d or new[channels[c][1]][d])]
    return (network, plain_thinned(network, table_of(n, cells), lambda found: found[0]), new)


SMALL_CHANGES = tuple(small_change(seed) for seed in range(80))


def union_table(old, new):
    return tuple(tuple(tuple(sorted(set(cell) | set(more))) for cell, more in zip(row, also)) for row,
        also in zip(old, new))


def present(change, switched, u, d):
    return change[2][u][d] if u in switched else change[1][u][d]


def plain_change_steps(change, state):
    """The possible steps by the words of [10.3]: put, go, out, switch, each ascending."""
    (n, channels), _, _ = change
    switched, (_, queues) = state
    m = len(channels)
    free = [len(queues[c]) < channels[c][2] for c in range(m)]
    steps = []
    for u, d, c in itertools.product(range(n), range(n), range(m)):
        if c in present(change, switched, u, d) and free[c]:
            steps.append(("put", u, d, c))
    for c, c2 in itertools.product(range(m), range(m)):
        if queues[c] and c2 in present(change, switched, channels[c][1], queues[c][0][1]) and free[c2]:
            steps.append(("go", c, c2))
    for c in range(m):
        if queues[c] and queues[c][0][1] == channels[c][1]:
            steps.append(("out", c))
    return steps + [("switch", u) for u in range(n) if u not in switched]


def plain_changed(change, state, step):
    """The changeover state behind a possible step."""
    switched, (count, queues) = state
    rows = [list(queue) for queue in queues]
    word, *numbers = step
    if word == "put":
        rows[numbers[2]].append((count, numbers[1]))
        count += 1
    elif word == "go":
        rows[numbers[1]].append(rows[numbers[0]].pop(0))
    elif word == "out":
        rows[numbers[0]].pop(0)
    else:
        switched = tuple(sorted(switched + (numbers[0],)))
    return (switched, (count, tuple(tuple(row) for row in rows)))


def plain_start(change):
    return ((), (0, ((),) * len(change[0][1])))


def drawn_change_script(change, seed, length=30):
    """A script from the start, drawn step by step, and the states in turn."""
    rng = random.Random(seed)
    likely = rng.choice((0.05, 0.1, 0.3))
    states = [plain_start(change)]
    script = []
    for _ in range(length):
        steps = plain_change_steps(change, states[-1])
        some = [step for step in steps if (step[0] == "switch") == (rng.random() < likely)] or steps
        if not some:
            break
        script.append(rng.choice(some))
        states.append(plain_changed(change, states[-1], script[-1]))
    return tuple(script), states


def change_states(change, seeds=range(3)):
    """The states that drawn scripts lead to, and some before them; the start among them."""
    found = []
    for seed in seeds:
        states = drawn_change_script(change, seed)[1]
        found += states[::7] + states[-1:]
    return found


def moved_first(change, state, switches=True, limit=600):
    """The channels whose first packets some continuation without puts moves; None if there are too many states.

    Without switches the nodes stay as they are.
    """
    seen = {state}
    waiting = [state]
    moved = set()
    while waiting:
        now = waiting.pop()
        for step in plain_change_steps(change, now):
            if step[0] == "put" or step[0] == "switch" and not switches:
                continue
            if step[0] != "switch":
                moved.add(step[1])
            behind = plain_changed(change, now, step)
            if behind not in seen:
                seen.add(behind)
                waiting.append(behind)
        if len(seen) > limit:
            return None
    return {c for c in moved if state[1][1][c]}
