"""Rounds: all channels in turn send off their first packets."""

from calmfabric.errors import NoAnswer
from calmfabric.networks import is_home, options
from calmfabric.packets import changes, first_of, is_full, packets_in
from calmfabric.ways import greatest_lengths


def play_round(fabric, state, order):
    """Return the state behind a round and the list of its moves."""
    count = state[0]
    queues = list(state[1])
    moves = []
    for c in order:
        move = move_from(fabric, (count, queues), c)
        if move is not None:
            moves.append(move)
            changed = changes(count, queues, move)
            for touched, queue in changed:
                queues[touched] = queue
    return ((count, tuple(queues)), moves)


def move_from(fabric, state, c):
    """Return the step that the first packet of a channel makes when its turn comes, or None."""
    packet = first_of(state, c)
    if packet is None:
        return None
    if is_home(fabric, c, packet[1]):
        return ("out", c)
    for option in options(fabric, c, packet[1]):
        if not is_full(fabric, state, option):
            return ("go", c, option)
    return None


def enough(fabric, state):
    """Return how many rounds are enough; raise NoAnswer if the fabric does not arrive."""
    n = fabric[0][0]
    lengths = [greatest_lengths(fabric, d) for d in range(n)]
    if None in lengths:
        raise NoAnswer("packets can go round for ever")
    return sum([lengths[d][c] for _, d, c in packets_in(state)])


def settle(fabric, state, order, limit):
    """Return how the rounds end: empty, still or again, or more if that does not come up to the limit."""
    seen = {}
    now = state
    for k in range(limit + 1):
        if not any(now[1]):
            return ("empty", k)
        if now in seen:
            return ("again", seen[now], k)
        seen[now] = k
        now, moves = play_round(fabric, now, order)
        if not moves:
            return ("still", k)
    return ("more",)
