"""Packets in a fabric, step by step."""

from calmfabric.errors import NotAllowed, NotPossible
from calmfabric.networks import is_home, options
from calmfabric.values import is_from, is_number, is_tuple_of

NUMBERS_OF_STEPS = {"put": 3, "go": 2, "out": 1}


def empty_state(fabric):
    """Return the state without packets in which none has been put."""
    return (0, ((),) * len(fabric[0][1]))


def is_state(fabric, value):
    """Tell whether any value is a state of the fabric."""
    channels = fabric[0][1]
    if not is_tuple_of(value, 2):
        return False
    count, queues = value
    if not is_from(count, 0) or not is_tuple_of(queues, len(channels)):
        return False
    if not all([is_queue(fabric, count, c, queue) for c, queue in enumerate(queues)]):
        return False
    numbers = [number for queue in queues for number, _ in queue]
    return len(set(numbers)) == len(numbers)


def is_queue(fabric, count, c, value):
    """Tell whether any value may be the packets in the channel c, if their numbers are different."""
    room = fabric[0][1][c][2]
    if not isinstance(value, tuple) or len(value) > room:
        return False
    return all([is_packet(fabric, count, c, packet) for packet in value])


def is_packet(fabric, count, c, value):
    """Tell whether any value may be a packet in the channel c."""
    (n, channels), table = fabric
    if not is_tuple_of(value, 2):
        return False
    number, goal = value
    if not is_number(number, 0, count - 1) or not is_number(goal, 0, n - 1):
        return False
    return c in table[channels[c][0]][goal]


def is_step(value):
    """Tell whether any value has the form of a step."""
    if not isinstance(value, tuple) or not value or not isinstance(value[0], str):
        return False
    if len(value) - 1 != NUMBERS_OF_STEPS.get(value[0]):
        return False
    return all([is_from(number, 0) for number in value[1:]])


def first_of(state, c):
    """Return the first packet of a channel, or None."""
    queue = state[1][c]
    return queue[0] if queue else None


def is_full(fabric, state, c):
    """Tell whether a channel has as many packets as room."""
    return len(state[1][c]) >= fabric[0][1][c][2]


def packets_in(state):
    """List the packets with their channels, (number, goal, channel), ascending."""
    return sorted([(number, goal, c) for c, queue in enumerate(state[1]) for number, goal in queue])


def is_possible(fabric, state, step):
    """Tell whether a step is possible in a state."""
    if not is_step(step):
        return False
    word = step[0]
    if word == "put":
        return can_put(fabric, state, step)
    c = step[1]
    if c >= len(state[1]) or not state[1][c]:
        return False
    goal = first_of(state, c)[1]
    if word == "out":
        return is_home(fabric, c, goal)
    # The options are channels, so c2 is one, too, if it is among them.
    c2 = step[2]
    return c2 in options(fabric, c, goal) and not is_full(fabric, state, c2)


def can_put(fabric, state, step):
    """Tell whether a step put is possible in a state."""
    (n, _), table = fabric
    _, u, d, c = step
    return u < n and d < n and c in table[u][d] and not is_full(fabric, state, c)


def possible_steps(fabric, state):
    """List all possible steps: all put, then all go, then all out, each ascending."""
    table = fabric[1]
    steps = [("put", u, d, c) for u, row in enumerate(table) for d, cell in enumerate(row) for c in cell]
    packets = [(c, first_of(state, c)) for c in range(len(state[1]))]
    goals = [(c, packet[1]) for c, packet in packets if packet is not None]
    steps.extend([("go", c, c2) for c, goal in goals for c2 in options(fabric, c, goal)])
    steps.extend([("out", c) for c, _ in goals])
    return [step for step in steps if is_possible(fabric, state, step)]


def after(fabric, state, step):
    """Return the state behind a possible step; raise NotAllowed if it is not possible."""
    if not is_possible(fabric, state, step):
        raise NotAllowed("the step is not possible")
    return play(fabric, state, (step,))


def play(fabric, state, script):
    """Return the last state of a script; raise NotPossible for the first step that is not possible."""
    count = state[0]
    queues = list(state[1])
    for k, step in enumerate(script):
        if not is_possible(fabric, (count, queues), step):
            raise NotPossible(k)
        changed = changes(count, queues, step)
        for c, queue in changed:
            queues[c] = queue
        if step[0] == "put":
            count += 1
    return (count, tuple(queues))


def changes(count, queues, step):
    """List the channels that a possible step touches, with the queues behind it."""
    if step[0] == "put":
        d, c = step[2:]
        return [(c, queues[c] + ((count, d),))]
    c = step[1]
    left = (c, queues[c][1:])
    if step[0] == "out":
        return [left]
    c2 = step[2]
    return [left, (c2, queues[c2] + queues[c][:1])]


def puts(fabric, queues):
    """Return a script of steps put that leads from the empty state to packets with these goals."""
    channels = fabric[0][1]
    return tuple([("put", channels[c][0], d, c) for c, goals in enumerate(queues) for d in goals])
