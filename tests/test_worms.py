import itertools
import random
import unittest

from samples import CHAIN4, DOUBLE, PAIR, RING3, WRONG_INTEGERS, WRONG_KINDS, deep, greatest, put_at, table_of
from worm_samples import LONG, ROW, SEVERAL, drawn_states, drawn_worms, plain_is_worm, plain_ways

from calmfabric.networks import placements
from calmfabric.wormplay import play_worms
from calmfabric.worms import (
    MAX_FLITS, empty_worms, free_channels, holder, is_worm, is_worm_state, is_worm_step, worm_length,
)

# In LONG, with rooms 2, 1, 3, 2, 2, 1: on the way with the head in channel 3, and at the goal, where two have left.
UNDER_WAY = (4, 5, 7, (0, 1, 2, 3), (2, 0, 3, 1), 0)
AT_GOAL = (9, 5, 0, (2, 3, 4), (1, 0, 2), 2)
SIZES = {"put": 4, "open": 2, "pull": 2, "feed": 1, "take": 1}


def drawn_worm(fabric, rng, number, free):
    """A worm of a state that holds free channels alone, drawn by the words of [8.1], or None."""
    channels = fabric[0][1]
    starts = [(c, d) for c, d in placements(fabric) if c in free]
    if not starts:
        return None
    _, goal = rng.choice(starts)
    ways = [way for way in plain_ways(fabric, goal) if set(way) <= free]
    way = rng.choice(ways)
    flits = [rng.randint(0, min(channels[c][2], 4)) for c in way]
    left, home = rng.choice((0, 0, 1, 3)), 0
    if channels[way[-1]][1] == goal:
        home = rng.choice((0, 1, 4))
    if home == 0:
        flits[-1] = max(flits[-1], 1)
    if left == 0:
        flits[0] = max(flits[0], 1)
    return (number, goal, left, way, tuple(flits), home)


def any_state(fabric, seed):
    """A worm state that is not played, but drawn."""
    rng = random.Random(seed)
    free = set(range(len(fabric[0][1])))
    worms = []
    for k in range(rng.randint(1, 4)):
        worm = drawn_worm(fabric, rng, 2 * k + rng.randint(0, 1), free)
        if worm is not None:
            worms.append(worm)
            free -= set(worm[3])
    return (9, tuple(worms))


def building_script(fabric, state):
    """A script that leads to these worms, apart from the numbers: the head opens the way, the foremost flits go first."""
    script = []
    for number, goal, left, way, flits, home in state[1]:
        source = fabric[0][1][way[0]][0]
        script.append(("put", source, goal, way[0], left + sum(flits) + home))
        script += [("open", c, c2) for c, c2 in zip(way, way[1:])]
        # For each flit behind the first one: how many channels it goes on, one more if it leaves.
        goes = [len(way)] * home
        for k, many in reversed(list(enumerate(flits))):
            goes += [k] * many
        for place, k in enumerate(goes):
            if place > 0:
                script.append(("feed", way[0]))
            begin = len(way) - 1 if place == 0 else 0
            script += [("pull", way[j], way[j + 1]) for j in range(begin, min(k, len(way) - 1))]
            if k == len(way):
                script.append(("take", way[-1]))
    return tuple(script)


class WormTest(unittest.TestCase):
    def test_constant_and_empty_state(self):
        self.assertEqual(MAX_FLITS, 1000000)
        self.assertEqual(empty_worms(), (0, ()))
        for fabric in SEVERAL:
            self.assertIs(is_worm_state(fabric, empty_worms()), True)

    def test_what_steps_lead_to(self):
        worms = 0
        for fabric in SEVERAL:
            for seed in range(5):
                for state in drawn_worms(fabric, seed)[1]:
                    self.assertIs(is_worm_state(fabric, state), True)
                    for worm in state[1]:
                        self.assertIs(is_worm(fabric, worm), True)
                        worms += 1
        self.assertGreater(worms, 1000)

    def test_drawn_states(self):
        several = 0
        for fabric in SEVERAL:
            for seed in range(6):
                state = any_state(fabric, seed)
                for worm in state[1]:
                    self.assertIs(is_worm(fabric, worm), True, worm)
                    self.assertIs(plain_is_worm(fabric, *worm), True)
                self.assertIs(is_worm_state(fabric, state), True)
                several += len(state[1]) > 1
        self.assertGreater(several, 50)

    def test_each_state_is_reached_apart_from_the_numbers(self):
        reached = 0
        for fabric in SEVERAL:
            for seed in range(8):
                state = any_state(fabric, seed)
                count, worms = play_worms(fabric, empty_worms(), building_script(fabric, state))
                self.assertEqual(count, len(state[1]))
                self.assertEqual([worm[1:] for worm in worms], [worm[1:] for worm in state[1]])
                reached += len(worms)
        self.assertGreater(reached, 200)

    def test_one_number_changed(self):
        right, wrong = 0, 0
        for fabric in (LONG, ROW, PAIR, RING3, CHAIN4) + SEVERAL[-8:]:
            told = [worm for seed in range(4) for worm in drawn_worms(fabric, seed)[1][-1][1]]
            told += [worm for seed in range(4) for worm in any_state(fabric, seed)[1]] if fabric in SEVERAL else []
            for worm in told[:12]:
                number, goal, left, way, flits, home = worm
                paths = [(0,), (1,), (2,), (5,)] + [(3, k) for k in range(len(way))] + [(4, k) for k in range(len(way))]
                for path in paths:
                    for other in range(-2, 9):
                        changed = put_at(worm, path, other)
                        self.assertIs(is_worm(fabric, changed), plain_is_worm(fabric, *changed), changed)
                        right += plain_is_worm(fabric, *changed)
                        wrong += not plain_is_worm(fabric, *changed)
        self.assertTrue(right > 500 and wrong > 500, (right, wrong))

    def test_numbers_and_goals(self):
        self.assertIs(is_worm(LONG, UNDER_WAY), True)
        self.assertIs(is_worm(LONG, AT_GOAL), True)
        for number in (0, 1, 10 ** 3000):
            self.assertIs(is_worm(LONG, put_at(UNDER_WAY, (0,), number)), True)
        for number in (-1, -10 ** 3000, True, False, None, "4", (4,)):
            self.assertIs(is_worm(LONG, put_at(UNDER_WAY, (0,), number)), False)
        for goal in (-1, 0, 1, 2, 3, 4, 6, 7, 10 ** 3000, True, "5", None, (5,)):
            self.assertIs(is_worm(LONG, put_at(UNDER_WAY, (1,), goal)), False)

    def test_flits(self):
        # More than room, below 0, of other lengths.
        for k, room in enumerate((2, 1, 3, 2)):
            for many in range(-2, 6):
                value = put_at(UNDER_WAY, (4, k), many)
                self.assertIs(is_worm(LONG, value), (k < 3 or many > 0) and 0 <= many <= room, value)
        for flits in ((), (2,), (2, 0, 3), (2, 0, 3, 1, 0), (2, 0, 3, 1, 1), ((2, 0, 3, 1),), 6, None, [2, 0, 3, 1]):
            self.assertIs(is_worm(LONG, put_at(UNDER_WAY, (4,), flits)), False)

    def test_ways(self):
        self.assertIs(is_worm(LONG, (4, 5, 7, (0, 5, 3), (2, 1, 1), 0)), True)
        for way, flits in (
            ((), ()), ((0, 1, 2), (2, 0, 3, 1)), ((0, 1, 2, 3, 4), (2, 0, 3, 1)), ((0, 1, 1, 3), (2, 0, 0, 1)),
            ((0, 1, 2, 0), (2, 0, 3, 1)), ((0, 2, 3), (2, 3, 1)), ((1, 0), (1, 1)), ((0, 3), (1, 1)),
            ((0, 5, 2), (1, 1, 1)),
            ((5, 1), (1, 1)), ((3, 2), (1, 1)), ((-1,), (1,)), ((6,), (1,)), ((0, -5), (1, 1)), ((10 ** 3000,), (1,)),
            ((True,), (1,)),
            ((False, 1), (1, 1)), ((0, True), (1, 1)), ((None,), (1,)), (("0",), (1,)), (((0,),), (1,)), (0, 1),
            ([0, 1], (1, 1)),
        ):
            self.assertIs(is_worm(LONG, (4, 5, 7, way, flits, 0)), False, way)
        # In a ring a worm can come to a channel that it holds; it can't hold it twice.
        ring = ((4, ((0, 1, 1), (1, 0, 1), (1, 2, 1))), table_of(4, {(0, 3): (0,), (1, 3): (1,)}))
        self.assertIs(is_worm(ring, (0, 3, 0, (0, 1), (1, 1), 0)), True)
        self.assertIs(is_worm(ring, (0, 3, 0, (1, 0), (1, 1), 0)), True)
        self.assertIs(is_worm(ring, (0, 3, 0, (0, 1, 0), (1, 1, 1), 0)), False)
        self.assertIs(is_worm(ring, (0, 3, 0, (0, 2), (1, 1), 0)), False)

    def test_no_flits_at_the_source_and_in_the_first_channel(self):
        for left, first, right in ((0, 0, False), (1, 0, True), (0, 1, True), (5, 2, True)):
            value = (4, 5, left, (0, 1, 2, 3), (first, 0, 3, 1), 0)
            self.assertIs(is_worm(LONG, value), right)
        self.assertIs(is_worm(LONG, put_at(AT_GOAL, (4, 0), 0)), False)
        self.assertIs(is_worm(LONG, (9, 5, 0, (4,), (0,), 5)), False)
        self.assertIs(is_worm(LONG, (9, 5, 1, (4,), (0,), 5)), True)

    def test_the_head(self):
        # It has a flit, unless some have left; some can have left only at the goal.
        self.assertIs(is_worm(LONG, put_at(UNDER_WAY, (4, 3), 0)), False)
        for home in (1, 2, 10 ** 5):
            self.assertIs(is_worm(LONG, put_at(UNDER_WAY, (5,), home)), False)
            self.assertIs(is_worm(LONG, put_at(AT_GOAL, (5,), home)), True)
        self.assertIs(is_worm(LONG, put_at(AT_GOAL, (5,), 0)), True)
        self.assertIs(is_worm(LONG, (9, 5, 0, (2, 3, 4), (1, 0, 0), 2)), True)
        self.assertIs(is_worm(LONG, (9, 5, 0, (2, 3, 4), (1, 0, 0), 0)), False)

    def test_lengths(self):
        for left in (MAX_FLITS - 6, MAX_FLITS - 5, MAX_FLITS, 10 ** 3000, -1, 0):
            self.assertIs(is_worm(LONG, put_at(UNDER_WAY, (2,), left)), left in (0, MAX_FLITS - 6))
        for home, right in ((MAX_FLITS - 3, True), (MAX_FLITS - 2, False), (-1, False), (10 ** 3000, False)):
            self.assertIs(is_worm(LONG, put_at(AT_GOAL, (5,), home)), right)
        self.assertIs(is_worm(ROW, (0, 2, 0, (0,), (1,), 0)), True)
        self.assertIs(is_worm(ROW, (0, 2, MAX_FLITS - 1, (0,), (1,), 0)), True)
        self.assertIs(is_worm(ROW, (0, 2, MAX_FLITS, (0,), (1,), 0)), False)

    def test_other_kinds_and_lengths(self):
        for fabric, worm in ((LONG, UNDER_WAY), (LONG, AT_GOAL), (ROW, (0, 2, 1, (0, 1), (1, 1), 0))):
            self.assertIs(is_worm(fabric, worm), True)
            paths = [(k,) for k in range(6)] + [(3, 0), (3, 1), (4, 0), (4, 1)]
            for wrong in WRONG_KINDS:
                self.assertIs(is_worm(fabric, wrong), False)
                self.assertIs(is_worm_state(fabric, (9, (wrong,))), False)
                for path in paths:
                    self.assertIs(is_worm(fabric, put_at(worm, path, wrong)), False, (path, wrong))
                    self.assertIs(is_worm_state(fabric, (19, (put_at(worm, path, wrong),))), False)
            for value in (worm[:5], worm + (0,), worm[1:], (worm,), list(worm), deep(80, worm), (worm,) * 6):
                self.assertIs(is_worm(fabric, value), False)
        # True for a number that would be right.
        worm = (1, 2, 1, (0, 1), (1, 1), 0)
        self.assertIs(is_worm(ROW, worm), True)
        for path in ((0,), (2,), (3, 0), (3, 1), (4, 0), (4, 1), (5,)):
            part = worm
            for k in path:
                part = part[k]
            self.assertIs(is_worm(ROW, put_at(worm, path, bool(part))), False, path)
        self.assertIs(is_worm(PAIR, (0, True, 0, (0,), (1,), 0)), False)


class StateTest(unittest.TestCase):
    STATE = (10, ((4, 5, 7, (0, 1), (2, 1), 0), (6, 5, 0, (5,), (1,), 0), (9, 5, 0, (2, 3, 4), (1, 0, 2), 2)))

    def test_numbers(self):
        self.assertIs(is_worm_state(LONG, self.STATE), True)
        for count in (10, 11, 10 ** 3000):
            self.assertIs(is_worm_state(LONG, (count, self.STATE[1])), True)
        for count in (9, 8, 4, 0, -1, True, None, "10", (10,)):
            self.assertIs(is_worm_state(LONG, (count, self.STATE[1])), False)
        for count in (0, 1, 7, 10 ** 3000):
            self.assertIs(is_worm_state(LONG, (count, ())), True)
        for count in (-1, True, False, None, "0", ()):
            self.assertIs(is_worm_state(LONG, (count, ())), False)
        for numbers in itertools.product(range(4), repeat=3):
            value = self.STATE
            for k, number in enumerate(numbers):
                value = put_at(value, (1, k, 0), number)
            a, b, c = numbers
            for count in (3, 4):
                self.assertIs(is_worm_state(LONG, (count, value[1])), a < b < c < count)

    def test_not_ascending_by_the_numbers(self):
        for worms in itertools.permutations(self.STATE[1]):
            self.assertIs(is_worm_state(LONG, (10, worms)), worms == self.STATE[1])
        # The goals and ways do not count.
        worms = ((0, 5, 0, (5,), (1,), 0), (1, 5, 0, (0,), (1,), 0))
        self.assertIs(is_worm_state(LONG, (2, worms)), True)
        self.assertIs(is_worm_state(LONG, (2, ((1,) + worms[0][1:], (0,) + worms[1][1:]))), False)

    def test_a_channel_held_by_two_worms(self):
        for c, right in ((1, False), (5, True)):
            worms = ((0, 5, 0, (0, c), (1, 1), 0), (1, 5, 0, (1, 2), (1, 1), 0))
            self.assertIs(is_worm_state(LONG, (2, worms)), right)
            self.assertIs(all(is_worm(LONG, worm) for worm in worms), True)
        self.assertIs(is_worm_state(LONG, (20, self.STATE[1] + ((15, 5, 0, (4,), (1,), 0),))), False)
        self.assertIs(is_worm_state(LONG, (20, self.STATE[1] + ((15,) + self.STATE[1][0][1:],))), False)

    def test_other_kinds_and_lengths(self):
        count, worms = self.STATE
        for value in (
            (), (count,), (count, worms, ()), (worms, count), (count, worms[0]), (count, list(worms)),
            (count, worms + ((),)),
            (count, ((),)), (count, worms + (None,)), (count, None), (count, 0), ((count, worms),), [count, worms],
            deep(80, self.STATE),
            (count, deep(78)), (count, deep(79, worms)), (count, (deep(78, worms[0]),)), {0: 1},
        ):
            self.assertIs(is_worm_state(LONG, value), False, value)
        for wrong in WRONG_KINDS + WRONG_INTEGERS:
            self.assertIs(is_worm_state(LONG, wrong), False)
            self.assertIs(is_worm_state(LONG, (count, wrong)), False)
            for k in range(3):
                self.assertIs(is_worm_state(LONG, put_at(self.STATE, (1, k), wrong)), False)


class StepTest(unittest.TestCase):
    def test_steps_of_the_five_words(self):
        for word, many in SIZES.items():
            for numbers in ((0,) * many, tuple(range(many)), (10 ** 3000,) * many, (MAX_FLITS + 1,) * many):
                self.assertIs(is_worm_step((word,) + numbers), True)
            for k in range(7):
                self.assertIs(is_worm_step((word,) + (1,) * k), k == many)
            for k in range(many):
                for wrong in WRONG_KINDS + (-1, -10 ** 3000):
                    self.assertIs(is_worm_step(put_at((word,) + (1,) * many, (k + 1,), wrong)), False)

    def test_other_words(self):
        words = ("go", "out", "switch", "Put", "PUT", "puts", "", " put", "open ", "close", "feeds", "tak", "pul", "0")
        for word in words + (None, True, 0, 1, ("put",), deep(79)):
            for many in range(6):
                self.assertIs(is_worm_step((word,) + (1,) * many), False)

    def test_other_values(self):
        more = ((), ("take",), (("take", 1),), ["take", 1], "take", deep(80, ("take", 1)), (1, "take"))
        for value in WRONG_KINDS + WRONG_INTEGERS + more:
            self.assertIs(is_worm_step(value), False)

    def test_scripts(self):
        for fabric in SEVERAL:
            for step in drawn_worms(fabric, 1)[0]:
                self.assertIs(is_worm_step(step), True)


class PartsTest(unittest.TestCase):
    def test_worm_length(self):
        self.assertEqual(worm_length(UNDER_WAY), 13)
        self.assertEqual(worm_length(AT_GOAL), 5)
        self.assertEqual(worm_length((0, 2, 999999, (0,), (1,), 0)), MAX_FLITS)
        for fabric in SEVERAL:
            for state in drawn_states(fabric):
                for worm in state[1]:
                    self.assertEqual(worm_length(worm), worm[2] + sum(worm[4]) + worm[5])

    def test_holder_and_free_channels(self):
        state = StateTest.STATE
        self.assertEqual([holder(state, c) for c in range(6)], [state[1][k] for k in (0, 0, 2, 2, 2, 1)])
        self.assertEqual(free_channels(LONG, state), [])
        self.assertEqual(free_channels(LONG, (10, state[1][:1])), [2, 3, 4, 5])
        self.assertEqual(free_channels(LONG, (10, state[1][1:])), [0, 1])
        for c in (6, 400, 10 ** 3000):
            self.assertIs(holder(state, c), None)
        for fabric in SEVERAL:
            for state in drawn_states(fabric):
                held = {c: worm for worm in state[1] for c in worm[3]}
                for c in range(len(fabric[0][1])):
                    self.assertEqual(holder(state, c), held.get(c))
                self.assertEqual(free_channels(fabric, state), [c for c in range(len(fabric[0][1])) if c not in held])

    def test_all_channels_are_free_at_first(self):
        for fabric in SEVERAL + (greatest(), DOUBLE):
            self.assertEqual(free_channels(fabric, empty_worms()), list(range(len(fabric[0][1]))))
            self.assertIs(holder(empty_worms(), 0), None)


if __name__ == "__main__":
    unittest.main()
