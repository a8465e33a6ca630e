"""Packets for the tests: fabrics, and states and scripts in them, worked out plainly."""

import collections
import functools
import itertools
import random

from samples import FABRICS, plain_thinned, table_of

from calmfabric.frames import mesh, network_of, torus
from calmfabric.networks import placements
from calmfabric.packets import empty_state
from calmfabric.routings import dateline, shortest
from calmfabric.texts import read_fabric

EXAMPLE = read_fabric(
    "nodes 3\nchannel 0 1 1\nchannel 1 2 1\nchannel 2 0 1\nat 0 to 1 : 0\nat 0 to 2 : 0\nat 1 to 2 : 1"
)
TORUS = (network_of(torus((3, 3)), 2, 2), dateline((3, 3), 2))
MESH = (network_of(mesh((2, 3)), 1, 3), shortest(network_of(mesh((2, 3)), 1, 3)))


def plain_possible(fabric, state):
    """The possible steps by the words of [4.2], in the order that the interface tells."""
    (n, channels), table = fabric
    queues = state[1]
    m = len(channels)
    free = [len(queues[c]) < channels[c][2] for c in range(m)]
    steps = []
    for u, d, c in itertools.product(range(n), range(n), range(m)):
        if c in table[u][d] and free[c]:
            steps.append(("put", u, d, c))
    for c, c2 in itertools.product(range(m), range(m)):
        if queues[c] and c2 in table[channels[c][1]][queues[c][0][1]] and free[c2]:
            steps.append(("go", c, c2))
    for c in range(m):
        if queues[c] and queues[c][0][1] == channels[c][1]:
            steps.append(("out", c))
    return steps


class World:
    """A fabric whose channels are deques, for one script."""

    def __init__(self, fabric):
        self.channels = [collections.deque() for _ in fabric[0][1]]
        self.count = 0
        self.gone = []

    def do(self, step):
        if step[0] == "put":
            self.channels[step[3]].append((self.count, step[2]))
            self.count += 1
        elif step[0] == "go":
            self.channels[step[2]].append(self.channels[step[1]].popleft())
        else:
            self.gone.append((step[1], self.channels[step[1]].popleft()))

    def state(self):
        return (self.count, tuple(tuple(channel) for channel in self.channels))


def world_of(fabric, state):
    """A world that is in this state."""
    world = World(fabric)
    world.count = state[0]
    world.channels = [collections.deque(queue) for queue in state[1]]
    return world


def plain_after(fabric, state, step):
    world = world_of(fabric, state)
    world.do(step)
    return world.state()


def plain_play(fabric, state, script):
    """The last state of a script, or None if a step of it is not possible."""
    world = world_of(fabric, state)
    for step in script:
        if step not in plain_possible(fabric, world.state()):
            return None
        world.do(step)
    return world.state()


def drawn_script(fabric, seed, length=40):
    """A script from the empty state, drawn step by step, and the world behind it."""
    rng = random.Random(seed)
    world = World(fabric)
    script = []
    # Some scripts fill the fabric, others move what is in it.
    likely = rng.choice((0.2, 0.5, 0.9))
    for _ in range(length):
        steps = plain_possible(fabric, world.state())
        moves = [step for step in steps if step[0] != "put"]
        if not steps:
            break
        script.append(rng.choice(moves if moves and rng.random() > likely else steps))
        world.do(script[-1])
    return tuple(script), world


def states_of(fabric, seeds=range(3)):
    """States that scripts lead to, the empty one first."""
    return [empty_state(fabric)] + [drawn_script(fabric, seed)[1].state() for seed in seeds]


@functools.lru_cache(maxsize=None)
def small_fabric(seed):
    """A fabric of few nodes and channels with room for one or two, so that much in it is full."""
    rng = random.Random(seed)
    n = rng.randint(3, 4)
    # Most of them have rings, in which packets may wait for each other.
    ends = [(u, (u + 1) % n) for u in range(n)] if rng.random() < 0.8 else []
    while len(ends) < rng.randint(3, 7):
        ends.append(tuple(rng.sample(range(n), 2)))
    rng.shuffle(ends)
    channels = tuple((u, v, rng.choice((1, 1, 2))) for u, v in ends)
    likely = rng.choice((0.4, 0.7, 1.0))
    pairs = [(u, d) for u in range(n) for d in range(n) if u != d]
    out = [[c for c, channel in enumerate(channels) if channel[0] == u] for u in range(n)]
    cells = {(u, d): [c for c in out[u] if rng.random() < likely] for u, d in pairs}
    return ((n, channels), plain_thinned((n, channels), table_of(n, cells), lambda found: found[0]))


def packed_state(fabric, seed):
    """A state with drawn packets in the channels, most of them not at home; all such can be reached ([4.5])."""
    rng = random.Random(seed)
    channels = fabric[0][1]
    goals = {}
    for c, d in placements(fabric):
        goals.setdefault(c, []).extend([d] if d == channels[c][1] else [d] * 4)
    likely = rng.choice((0.5, 0.8, 0.95, 1.0))
    queues = []
    for c, (_, _, room) in enumerate(channels):
        many = sum(rng.random() < likely for _ in range(min(room, 3))) if c in goals else 0
        queues.append([rng.choice(goals[c]) for _ in range(many)])
    count = sum(map(len, queues)) + rng.randint(0, 2)
    numbers = list(range(count))
    rng.shuffle(numbers)
    return (count, tuple(tuple((numbers.pop(), d) for d in queue) for queue in queues))


SEVERAL = FABRICS + (EXAMPLE, TORUS, MESH)
