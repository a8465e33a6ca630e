"""Worms for the tests: fabrics, steps and states, worked out flit by flit, and ways, by the words of the points."""

import functools
import random

from samples import CHAIN4, DOUBLE, MIXED, PAIR, RING3, ring
from worlds import EXAMPLE, MESH, TORUS, small_fabric

from calmfabric.networks import placements
from calmfabric.texts import read_fabric

MAX_FLITS = 1000000
ROW = read_fabric("nodes 3\nchannel 0 1 2\nchannel 1 2 1\nat 0 to 2 : 0\nat 1 to 2 : 1")
LONG = read_fabric(
    "nodes 6\nchannel 0 1 2\nchannel 1 2 1\nchannel 2 3 3\nchannel 3 4 2\nchannel 4 5 2\nchannel 1 3 1\n"
    "at 0 to 5 : 0\nat 1 to 5 : 1 5\nat 2 to 5 : 2\nat 3 to 5 : 3\nat 4 to 5 : 4"
)
# All of these have ranks; worms of more flits than one are another question.
RANKED_TEXTS = (
    # Trees with two and three levels, whatever the length.
    "nodes 3\nchannel 0 1 1\nchannel 1 2 1\nchannel 2 0 2\nchannel 2 1 1\nchannel 1 2 1\n"
    "at 1 to 0 : 1 4\nat 1 to 2 : 1\nat 2 to 0 : 2 3\nat 2 to 1 : 3",
    "nodes 3\nchannel 0 1 3\nchannel 1 2 2\nchannel 2 0 2\nchannel 2 1 1\nchannel 1 2 1\n"
    "at 0 to 2 : 0\nat 1 to 0 : 1 4\nat 1 to 2 : 4\nat 2 to 0 : 2 3\nat 2 to 1 : 3",
    # A tree of more splits for greater lengths.
    "nodes 4\nchannel 0 1 1\nchannel 1 2 1\nchannel 2 3 2\nchannel 3 0 1\nchannel 1 2 1\nchannel 0 1 1\nchannel 2 1 1\n"
    "at 0 to 1 : 0 5\nat 0 to 2 : 0 5\nat 0 to 3 : 0 5\nat 1 to 0 : 1 4\nat 1 to 2 : 1\nat 1 to 3 : 1 4\nat 2 to 0 : 2\n"
    "at 2 to 1 : 6\nat 2 to 3 : 2 6\nat 3 to 0 : 3",
    # None up to 2 flits, a knot of two ways from 3 on.
    "nodes 3\nchannel 0 1 3\nchannel 1 2 1\nchannel 2 0 1\nchannel 0 2 1\nchannel 2 1 1\nchannel 0 2 1\nchannel 2 1 2\n"
    "at 0 to 1 : 0 3 5\nat 0 to 2 : 0 5\nat 1 to 0 : 1\nat 1 to 2 : 1\nat 2 to 0 : 2 6\nat 2 to 1 : 2 4 6",
    # A tree of 22 from 4 flits on.
    "nodes 3\nchannel 0 1 1\nchannel 1 2 2\nchannel 2 0 3\nchannel 1 0 1\nchannel 0 2 3\nchannel 2 1 3\nchannel 1 0 1\n"
    "channel 0 2 2\nat 0 to 1 : 0 4 7\nat 0 to 2 : 0 4 7\nat 1 to 0 : 1 3 6\nat 1 to 2 : 1 3 6\nat 2 to 0 : 2\nat 2 to 1 : 2 5",
    # Of 7 flits on one worm waits for itself.
    "nodes 4\nchannel 0 1 3\nchannel 1 2 2\nchannel 2 3 1\nchannel 3 0 1\nchannel 0 3 1\nchannel 0 2 3\nchannel 3 0 2\n"
    "channel 2 0 3\nchannel 0 1 1\nat 0 to 1 : 4 8\nat 0 to 3 : 0 4 5\nat 1 to 3 : 1\nat 2 to 0 : 2\nat 2 to 3 : 2 7\n"
    "at 3 to 0 : 3 6\nat 3 to 1 : 3 6",
    # Knots of six ways from 2 and from 4 flits on.
    "nodes 3\nchannel 0 1 1\nchannel 1 2 1\nchannel 2 0 2\nchannel 1 0 1\nchannel 1 0 3\nchannel 0 2 3\nchannel 2 1 1\n"
    "channel 1 0 3\nat 0 to 1 : 0 5\nat 0 to 2 : 0 5\nat 1 to 0 : 3 4 7\nat 1 to 2 : 1 3 4 7\nat 2 to 0 : 2 6\nat 2 to 1 : 2 6",
    "nodes 3\nchannel 0 1 1\nchannel 1 2 1\nchannel 2 0 2\nchannel 0 1 3\nchannel 2 1 3\nchannel 2 1 1\nchannel 1 2 1\n"
    "channel 0 2 3\nat 0 to 1 : 0 3 7\nat 0 to 2 : 0 7\nat 1 to 0 : 1 6\nat 1 to 2 : 1 6\nat 2 to 0 : 2 4 5\nat 2 to 1 : 2 5",
)
RANKED = tuple(read_fabric(text) for text in RANKED_TEXTS)
SEVERAL = (ROW, LONG, PAIR, DOUBLE, RING3, CHAIN4, MIXED, EXAMPLE, MESH, TORUS, ring(4, 2)) + RANKED
SEVERAL += tuple(small_fabric(seed) for seed in range(30))


class Flits:
    """The worms of a state; of each flit, the foremost one first, it is known where it is."""

    def __init__(self, fabric, state=(0, ())):
        self.fabric = fabric
        self.count = state[0]
        self.worms = []
        for number, goal, left, way, flits, home in state[1]:
            places = ["home"] * home
            for c, many in reversed(list(zip(way, flits))):
                places += [c] * many
            self.worms.append([number, goal, list(way), places + ["source"] * left])

    def state(self):
        worms = []
        for number, goal, way, places in self.worms:
            told = tuple(places.count(c) for c in way)
            worms.append((number, goal, places.count("source"), tuple(way), told, places.count("home")))
        return (self.count, tuple(worms))

    def holder(self, c):
        return next((worm for worm in self.worms if c in worm[2]), None)

    def has_room(self, worm, c):
        return worm[3].count(c) < self.fabric[0][1][c][2]

    def can(self, step):
        """Whether a step of integers from 0 on is possible, by the words of [8.3]."""
        (n, channels), table = self.fabric
        word, *numbers = step
        if word == "put":
            u, d, c, length = numbers
            right = u < n and d < n and c < len(channels) and c in table[u][d]
            return right and self.holder(c) is None and 1 <= length <= MAX_FLITS
        worm = self.holder(numbers[0])
        if worm is None:
            return False
        _, goal, way, places = worm
        c = numbers[0]
        at_goal = channels[way[-1]][1] == goal
        if word == "open":
            c2 = numbers[1]
            free = c2 < len(channels) and self.holder(c2) is None
            return way[-1] == c and not at_goal and free and c2 in table[channels[c][1]][goal]
        if word == "pull":
            neighbours = list(zip(way, way[1:]))
            return (c, numbers[1]) in neighbours and c in places and self.has_room(worm, numbers[1])
        if word == "feed":
            return way[0] == c and "source" in places and self.has_room(worm, c)
        return way[-1] == c and at_goal and c in places

    def do(self, step):
        word, *numbers = step
        if word == "put":
            _, d, c, length = numbers
            self.worms.append([self.count, d, [c], [c] + ["source"] * (length - 1)])
            self.count += 1
            return
        worm = self.holder(numbers[0])
        places = worm[3]
        before, behind = {
            "open": (numbers[0], numbers[-1]), "pull": (numbers[0], numbers[-1]), "feed": ("source", numbers[0]),
            "take": (numbers[0], "home"),
        }[word]
        if word == "open":
            worm[2].append(behind)
        places[places.index(before)] = behind
        while worm[2] and "source" not in places and worm[2][0] not in places:
            del worm[2][0]
        if not worm[2]:
            self.worms.remove(worm)

    def steps(self, lengths):
        """All possible steps in the order that the interface tells."""
        (n, channels), table = self.fabric
        many = range(len(channels))
        steps = [("put", u, d, c, k) for u in range(n) for d in range(n) for c in table[u][d] for k in sorted(set(lengths))]
        steps += [("open", c, c2) for c in many for c2 in many]
        steps += [("pull", c, c2) for c in many for c2 in many]
        steps += [("feed", c) for c in many] + [("take", c) for c in many]
        return [step for step in steps if self.can(step)]


def plain_worm_after(fabric, state, step):
    flits = Flits(fabric, state)
    flits.do(step)
    return flits.state()


@functools.lru_cache(maxsize=None)
def drawn_worms(fabric, seed, length=40, sizes=(1, 2, 3, 5)):
    """A worm script from the empty state, drawn step by step, and the states in turn."""
    rng = random.Random(seed)
    flits = Flits(fabric)
    script, states = [], [flits.state()]
    # Some scripts put many worms, others move those that are there.
    likely = rng.choice((0.1, 0.3, 0.8))
    for _ in range(length):
        steps = flits.steps(sizes)
        moves = [step for step in steps if step[0] != "put"]
        if not steps:
            break
        script.append(rng.choice(moves if moves and rng.random() > likely else steps))
        flits.do(script[-1])
        states.append(flits.state())
    return tuple(script), tuple(states)


def drawn_states(fabric, seeds=range(3)):
    """States that worm scripts lead to, the empty one first."""
    return [(0, ())] + [drawn_worms(fabric, seed)[1][-1] for seed in seeds]


def plain_is_worm(fabric, number, goal, left, way, flits, home):
    """Whether numbers and tuples of numbers are a worm, by the words of [8.1]."""
    (n, channels), table = fabric
    if number < 0 or not 0 <= goal < n or left < 0 or home < 0 or not way or len(flits) != len(way):
        return False
    if any(not 0 <= c < len(channels) for c in way) or any(way.count(c) > 1 for c in way):
        return False
    if any(not 0 <= many <= channels[c][2] for c, many in zip(way, flits)):
        return False
    source = channels[way[0]][0]
    for c in way:
        if c not in table[source][goal]:
            return False
        source = channels[c][1]
    if source == goal:
        if flits[-1] == 0 and home == 0:
            return False
    elif home > 0 or flits[-1] == 0:
        return False
    if left == 0 and flits[0] == 0:
        return False
    return 1 <= left + sum(flits) + home <= MAX_FLITS


@functools.lru_cache(maxsize=None)
def plain_ways(fabric, d):
    """All ways for a goal, lengthened channel by channel, by the words of [9.1]."""
    channels, table = fabric[0][1], fabric[1]
    found = []
    waiting = [(c,) for c, goal in placements(fabric) if goal == d]
    while waiting:
        way = waiting.pop()
        found.append(way)
        waiting += [way + (c,) for c in table[channels[way[-1]][1]][d] if c not in way]
    return tuple(sorted(found))


def plain_least(fabric, way):
    return 1 + sum(fabric[0][1][c][2] for c in way[1:])


def plain_options(fabric, d, way):
    return fabric[1][fabric[0][1][way[-1]][1]][d]


def plain_candidates(fabric, longest, chosen, barred, c):
    """The candidates through a channel, among all ways, by the words of [9.6]."""
    taken = set(barred).union(*[way for _, way in chosen])
    found = []
    for d in range(fabric[0][0]):
        for way in plain_ways(fabric, d):
            home = fabric[0][1][way[-1]][1] == d
            if c in way and not taken & set(way) and not home and not set(plain_options(fabric, d, way)) & set(barred):
                if plain_least(fabric, way) <= longest:
                    found.append((d, way))
    return found


def plain_is_worm_knot(fabric, longest, knot):
    """Whether a tuple of pairs is a worm knot, by the words of [9.2]."""
    if not isinstance(knot, tuple) or not knot or list(knot) != sorted(set(knot)):
        return False
    held = [c for _, way in knot for c in way]
    if len(set(held)) != len(held):
        return False
    for d, way in knot:
        if way not in plain_ways(fabric, d) or fabric[0][1][way[-1]][1] == d or plain_least(fabric, way) > longest:
            return False
        if not set(plain_options(fabric, d, way)) <= set(held):
            return False
    return True


def fitting_knot(fabric, longest, chosen=(), barred=()):
    """A worm knot that fits a situation, or None, looked for way by way."""
    taken = set(barred).union(*[way for _, way in chosen])
    needed = [c for d, way in chosen for c in plain_options(fabric, d, way)]
    if set(needed) & set(barred):
        return None
    missing = [c for c in needed if c not in taken]
    if chosen and not missing:
        return tuple(sorted(chosen))
    # A knot without chosen ways goes through some channel.
    for c in missing[:1] if chosen else range(len(fabric[0][1])):
        if c not in taken:
            for pair in plain_candidates(fabric, longest, chosen, barred, c):
                knot = fitting_knot(fabric, longest, chosen + (pair,), barred)
                if knot is not None:
                    return knot
            barred = tuple(barred) if chosen else tuple(barred) + (c,)
    return None


def plain_is_tree(fabric, longest, chosen, barred, value):
    """Whether a tuple of the form of a search tree is one, by the words of [9.7]."""
    taken = set(barred).union(*[way for _, way in chosen])
    word, order = value[:2]
    shut = tuple(barred)
    for c in order:
        if c in taken or plain_candidates(fabric, longest, chosen, shut, c):
            return False
        shut += (c,)
    needed = {c for d, way in chosen for c in plain_options(fabric, d, way)}
    if word == "closed":
        return bool(needed & set(shut)) if chosen else set(shut) == set(range(len(fabric[0][1])))
    c, trees = value[2:]
    if c in taken or c in shut or chosen and c not in needed:
        return False
    pairs = plain_candidates(fabric, longest, chosen, shut, c)
    if len(trees) != len(pairs) + (not chosen):
        return False
    inner = [plain_is_tree(fabric, longest, chosen + (pair,), shut, part) for pair, part in zip(pairs, trees)]
    return all(inner) and (bool(chosen) or plain_is_tree(fabric, longest, chosen, shut + (c,), trees[-1]))


def situations_of(fabric, seed):
    """Chosen ways and barred channels, drawn; no channel is on two of the ways, and no barred one on any."""
    rng = random.Random(seed)
    pairs = [(d, way) for d in range(fabric[0][0]) for way in plain_ways(fabric, d) if fabric[0][1][way[-1]][1] != d]
    chosen, taken = (), set()
    for _ in range(rng.choice((0, 1, 1, 2)) if pairs else 0):
        d, way = rng.choice(pairs)
        if not taken & set(way):
            chosen += ((d, way),)
            taken |= set(way)
    free = [c for c in range(len(fabric[0][1])) if c not in taken]
    barred = tuple(rng.sample(free, rng.randint(0, min(3, len(free)))))
    return chosen, barred
