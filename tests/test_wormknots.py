import itertools
import random
import unittest

from samples import (
    CHAIN4, MIXED, NO_OPTIONS, PAIR, RING3, WRONG_INTEGERS, WRONG_KINDS, deep, greatest, paths_of,
    put_at, ring,
)
from verdict_samples import ESCAPE, PLANE
from worlds import EXAMPLE, TORUS, small_fabric
from worm_samples import (
    LONG, RANKED, ROW, SEVERAL, Flits, fitting_knot, plain_is_worm_knot, plain_least, plain_ways,
)

from calmfabric.cases import case_of
from calmfabric.verdicts import greatest_knot
from calmfabric.wormknots import critical_length, find_worm_knot, is_worm_knot, worm_knot_script
from calmfabric.wormplay import is_worm_possible, play_worms
from calmfabric.worms import MAX_FLITS, empty_worms
from calmfabric.wormtrees import worm_verdict

SMALL = tuple(fabric for fabric in SEVERAL if len(fabric[0][1]) <= 9) + tuple(small_fabric(seed) for seed in range(30,
    70))
LENGTHS = (1, 2, 3, 4, 6, 7, MAX_FLITS)
# Of the two ways one has two channels; its worm needs three flits.
TWO_WAYS = find_worm_knot(RANKED[3], 3)


def need_of(fabric, knot):
    return max(plain_least(fabric, way) for _, way in knot)


def knots_of(fabric):
    """Some worm knots, each with the least length of worms that it needs."""
    found = {knot for knot in [find_worm_knot(fabric, longest) for longest in LENGTHS] if knot is not None}
    return [(knot, need_of(fabric, knot)) for knot in sorted(found)]


def all_pairs(fabric):
    return [(d, way) for d in range(fabric[0][0]) for way in plain_ways(fabric, d)]


def follow_ups(flits):
    """The possible steps by which no head moves."""
    return [step for step in flits.steps(()) if step[0] in ("pull", "feed")]


class IsKnotTest(unittest.TestCase):
    def test_all_sets_of_ways(self):
        right, wrong = 0, 0
        for fabric in SMALL:
            pairs = all_pairs(fabric)
            if len(pairs) <= 16:
                for k in range(4):
                    for value in itertools.combinations(pairs, k):
                        for longest in (1, 2, 5):
                            told = plain_is_worm_knot(fabric, longest, value)
                            self.assertIs(is_worm_knot(fabric, longest, value), told)
                            right += told
                            wrong += not told
        self.assertTrue(right > 10 and wrong > 5000, (right, wrong))

    def test_just_the_least_length(self):
        needs = set()
        for fabric in SMALL:
            for knot, need in knots_of(fabric):
                self.assertIs(is_worm_knot(fabric, need, knot), True)
                self.assertIs(is_worm_knot(fabric, MAX_FLITS, knot), True)
                self.assertIs(is_worm_knot(fabric, need - 1, knot), False)
                needs.add(need)
        self.assertGreater(len(needs), 3)

    def test_one_thing_wrong(self):
        tried, longer = 0, 0
        for fabric in SMALL:
            for knot, need in knots_of(fabric):
                values = [knot[:k] + knot[k + 1:] for k in range(len(knot))] + [knot[::-1], knot + knot[-1:],
                    knot[:1] + knot]
                values += [knot[:k] + knot[k:k + 1] + knot[k:] for k in range(len(knot))]
                pairs = all_pairs(fabric)
                values += [tuple(sorted(knot + (pair,))) for pair in pairs]
                values += [knot + (pair,) for pair in pairs] + [(pair,) + knot for pair in pairs]
                for k in range(len(knot)):
                    values += [put_at(knot, (k,), pair) for pair in pairs]
                    values += [put_at(knot, (k, 1), way) for way in itertools.permutations(knot[k][1])]
                for value in values:
                    told = plain_is_worm_knot(fabric, need, value)
                    self.assertIs(is_worm_knot(fabric, need, value), told, value)
                    tried += not told
                    longer += told and value != knot
        self.assertTrue(tried > 1000 and longer > 0, (tried, longer))

    def test_all_orders(self):
        self.assertEqual([len(way) for _, way in TWO_WAYS], [2, 1])
        knot = find_worm_knot(RANKED[6], 9)
        self.assertGreater(len(knot), 4)
        self.assertIs(is_worm_knot(RANKED[6], 9, knot), True)
        for seed in range(60):
            other = tuple(random.Random(seed).sample(knot, len(knot)))
            self.assertIs(is_worm_knot(RANKED[6], 9, other), other == knot)

    def test_the_empty_tuple(self):
        for fabric in SMALL:
            self.assertIs(is_worm_knot(fabric, MAX_FLITS, ()), False)
            self.assertIs(is_worm_knot(fabric, MAX_FLITS, ((),)), False)
            self.assertIs(is_worm_knot(fabric, MAX_FLITS, ((0, ()),)), False)

    def test_by_hand(self):
        knot = ((0, (1,)), (1, (2,)), (2, (0,)))
        self.assertIs(is_worm_knot(RING3, 1, knot), True)
        for value in (
            # A way that is home, and one whose option is on none.
            ((1, (0,)), (1, (2,)), (2, (0,))), ((0, (1,)), (0, (2,)), (2, (0,))), ((0, (1,)), (2, (0,))),
            # A channel on two ways, one that is no way, a goal that is the source.
            ((0, (1,)), (0, (1,)), (1, (2,)), (2, (0,))), ((0, (0,)), (0, (1,)), (1, (2,))), ((0, (1, 0)), (1, (2,))),
            ((0, (1,)), (1, (2,)), (2, (2, 0))), ((0, (1,)), (1, (2,)), (1, (2,)), (2, (0,))),
            ((0, (1,)), (1, (2,)), (3, (0,))), ((-1, (0,)), (0, (1,)), (1, (2,))), ((0, (1,)), (1, (2,)), (2, (3,))),
        ):
            self.assertIs(is_worm_knot(RING3, 9, value), False, value)
        # Two channels of one way; the second one is not counted for one flit alone.
        long = ((1, (2,)), (2, (0,)))
        self.assertIs(is_worm_knot(RING3, 9, long), False)
        square = ring(4, 2)
        knot = ((0, (1, 2)), (2, (3, 0)))
        self.assertIs(is_worm_knot(square, 3, knot), True)
        self.assertIs(is_worm_knot(square, 2, knot), False)
        self.assertIs(is_worm_knot(square, 3, ((0, (1, 2)), (2, (0,)), (2, (3,)))), True)
        self.assertIs(is_worm_knot(square, 3, ((0, (1, 2)), (2, (3, 0)), (3, (1,)))), False)
        self.assertIs(is_worm_knot(square, 3, ((0, (1, 2)), (3, (3, 0)))), False)

    def test_one_worm_that_waits_for_itself(self):
        knot = find_worm_knot(RANKED[5], 7)
        self.assertEqual(knot, ((3, (1, 7, 0)),))
        self.assertIs(is_worm_knot(RANKED[5], 6, knot), False)
        self.assertIs(is_worm_knot(RANKED[5], 7, ((3, (0, 1, 7)),)), False)

    def test_other_kinds(self):
        for fabric, longest, knot in (
            (RING3, 1, ((0, (1,)), (1, (2,)), (2, (0,)))), (RANKED[3], 3, TWO_WAYS),
            (RANKED[6], 9, find_worm_knot(RANKED[6], 9)),
        ):
            self.assertIs(is_worm_knot(fabric, longest, knot), True)
            for wrong in WRONG_KINDS + WRONG_INTEGERS:
                for path in paths_of(knot):
                    self.assertIs(is_worm_knot(fabric, longest, put_at(knot, path, wrong)), False, (path, wrong))
            for value in (list(knot), knot[0], (knot,), deep(80, knot), put_at(knot, (0,), list(knot[0]))):
                self.assertIs(is_worm_knot(fabric, longest, value), False)
            for value in (put_at(knot, (0,), knot[0] + (0,)), put_at(knot, (0,), knot[0][:1]),
                    put_at(knot, (0,), knot[0][::-1])):
                self.assertIs(is_worm_knot(fabric, longest, value), False)

    def test_true_is_no_number(self):
        knot = ((0, (1,)), (1, (2,)), (2, (0,)))
        for path, wrong in (((0, 0), False), ((0, 1, 0), True), ((1, 0), True), ((2, 1, 0), False)):
            self.assertIs(is_worm_knot(RING3, 5, put_at(knot, path, wrong)), False)


class ScriptTest(unittest.TestCase):
    def test_the_steps_in_order(self):
        network = (3, ((0, 1, 2), (1, 2, 1), (2, 0, 3)))
        self.assertEqual(
            worm_knot_script(network, ((0, (1, 2)), (2, (0,)))),
            (("put", 1, 0, 1, 4), ("open", 1, 2), ("put", 0, 2, 0, 1)),
        )
        self.assertEqual(
            worm_knot_script(RANKED[5][0], ((3, (1, 7, 0)),)), (("put", 1, 3, 1, 7), ("open", 1, 7), ("open", 7, 0)),
        )
        script = worm_knot_script(RING3[0], ((0, (1,)), (1, (2,)), (2, (0,))))
        self.assertEqual(script, (("put", 1, 0, 1, 1), ("put", 2, 1, 2, 1), ("put", 0, 2, 0, 1)))
        self.assertIsInstance(script, tuple)

    def test_by_the_words(self):
        for fabric in SMALL:
            channels = fabric[0][1]
            for knot, _ in knots_of(fabric):
                steps = []
                for d, way in knot:
                    steps.append(("put", channels[way[0]][0], d, way[0], plain_least(fabric, way)))
                    steps += [("open", c, c2) for c, c2 in zip(way, way[1:])]
                self.assertEqual(worm_knot_script(fabric[0], knot), tuple(steps))

    def test_no_head_ever_opens_a_channel(self):
        held_up, moved = 0, 0
        for fabric in SMALL:
            for knot, need in knots_of(fabric):
                state = play_worms(fabric, empty_worms(), worm_knot_script(fabric[0], knot))
                self.assertEqual([(worm[1], worm[3]) for worm in state[1]], list(knot))
                held = {c for _, way in knot for c in way}
                for seed in range(4):
                    rng = random.Random(seed)
                    flits = Flits(fabric, state)
                    for _ in range(25):
                        steps = flits.steps((1, 2, need))
                        for step in steps:
                            # No other worm gets a channel of theirs, either.
                            self.assertFalse(step[0] == "open" and (step[1] in held or step[2] in held), step)
                            self.assertFalse(step[0] == "put" and step[3] in held, step)
                            self.assertFalse(step[0] == "take" and step[1] in held, step)
                        if not steps:
                            break
                        moves = [step for step in steps if step[0] != "put"]
                        flits.do(rng.choice(moves if moves and rng.random() < 0.8 else steps))
                        moved += 1
                        # Their flits may follow, but no channel is released.
                        for (d, way), worm in zip(knot, flits.state()[1]):
                            self.assertEqual((worm[1], worm[3]), (d, way))
                    held_up += len(knot)
        self.assertTrue(held_up > 300 and moved > 500, (held_up, moved))

    def test_a_flit_less_is_not_enough(self):
        seen = 0
        for fabric in RANKED:
            for knot, need in knots_of(fabric):
                script = worm_knot_script(fabric[0], knot)
                for k, step in enumerate(script):
                    if step[0] == "put" and step[4] > 1:
                        shorter = put_at(script, (k, 4), step[4] - 1)
                        state = play_worms(fabric, empty_worms(), shorter)
                        # Its flits can be pulled together, so that its first channel is free again.
                        flits = Flits(fabric, (state[0], tuple(worm for worm in state[1] if step[3] in worm[3])))
                        steps = follow_ups(flits)
                        while steps:
                            flits.do(steps[0])
                            steps = follow_ups(flits)
                        self.assertIs(flits.holder(step[3]), None)
                        seen += 1
        self.assertGreater(seen, 2)


class FindTest(unittest.TestCase):
    def check(self, fabric, longest):
        knot = find_worm_knot(fabric, longest)
        if knot is not None:
            self.assertIs(is_worm_knot(fabric, longest, knot), True)
            self.assertIs(plain_is_worm_knot(fabric, longest, knot), True)
        return knot

    def test_of_one_flit_against_the_knot_of_the_case(self):
        found = []
        for fabric in SMALL + tuple(small_fabric(seed) for seed in range(70, 150)) + (TORUS, ESCAPE, PLANE, ring(17)):
            knot = find_worm_knot(fabric, 1)
            packets = greatest_knot(case_of(fabric))
            self.assertIs(knot is None, packets is None)
            if knot is not None:
                # One channel each, and all of them are in the greatest knot.
                self.assertEqual({len(way) for _, way in knot}, {1})
                self.assertLessEqual({way[0] for _, way in knot}, {c for c, _ in packets})
                self.assertIs(is_worm_knot(fabric, 1, knot), True)
            found.append(knot is not None)
        self.assertTrue(found.count(True) > 30 and found.count(False) > 30)

    def test_against_all_sets_of_ways(self):
        words = {}
        for fabric in SMALL:
            for longest in LENGTHS:
                knot = self.check(fabric, longest)
                self.assertIs(knot is None, fitting_knot(fabric, longest) is None)
                self.assertIs(knot is None, worm_verdict(fabric, longest)[0] == "tree")
                words[longest > 1, knot is None] = words.get((longest > 1, knot is None), 0) + 1
        self.assertEqual(len(words), 4)
        self.assertGreater(min(words.values()), 20)

    def test_one_for_some_length_is_one_for_each_greater_one(self):
        for fabric in SMALL:
            for shorter, longer in itertools.combinations(LENGTHS, 2):
                knot = find_worm_knot(fabric, shorter)
                if knot is not None:
                    self.assertIs(is_worm_knot(fabric, longer, knot), True)
                    self.assertIsNot(find_worm_knot(fabric, longer), None)

    def test_none(self):
        for fabric in (TORUS, ESCAPE, PLANE, CHAIN4, ROW, LONG, EXAMPLE, PAIR, NO_OPTIONS):
            for longest in (1, 2, 9, MAX_FLITS):
                self.assertIs(find_worm_knot(fabric, longest), None)

    def test_great_fabrics(self):
        for fabric in (greatest(), ring(64, 1000)):
            knot = find_worm_knot(fabric, MAX_FLITS)
            self.assertIs(is_worm_knot(fabric, MAX_FLITS, knot), True)
            for step, state in self.played(fabric, knot)[:3]:
                self.assertIs(is_worm_possible(fabric, state, step), True)

    def played(self, fabric, knot):
        state = empty_worms()
        seen = []
        for step in worm_knot_script(fabric[0], knot):
            seen.append((step, state))
            state = play_worms(fabric, state, (step,))
        return seen


class CriticalTest(unittest.TestCase):
    def test_against_all_lengths_of_ways(self):
        found = []
        for fabric in SMALL:
            # It is the least length of some way, or there is none.
            needs = sorted({plain_least(fabric, way) for _, way in all_pairs(fabric)})
            right = [need for need in needs if fitting_knot(fabric, need) is not None][:1]
            length = critical_length(fabric)
            self.assertEqual([length], right or [None])
            found.append(length)
        self.assertGreater(found.count(1), 20)
        self.assertGreater(found.count(None), 20)
        self.assertGreaterEqual(len(set(found) - {1, None}), 4)

    def test_the_least_length_with_a_knot(self):
        for fabric in SMALL:
            length = critical_length(fabric)
            if length is None:
                self.assertIs(find_worm_knot(fabric, MAX_FLITS), None)
            else:
                self.assertEqual(need_of(fabric, find_worm_knot(fabric, length)), length)
                self.assertIs(length > 1 and find_worm_knot(fabric, length - 1) is not None, False)

    def test_known_ones(self):
        self.assertEqual([critical_length(fabric) for fabric in RANKED], [None, None, None, 3, None, 7, 2, 4])
        for fabric in (RING3, MIXED, ring(4, 5), ring(17, 1000), greatest()):
            self.assertEqual(critical_length(fabric), 1)
        for fabric in (TORUS, ESCAPE, PLANE, CHAIN4, ROW, LONG, EXAMPLE, PAIR, NO_OPTIONS):
            self.assertIs(critical_length(fabric), None)

    def test_great_rooms(self):
        # The rooms of the channels behind the first one of the way, each of them a thousand times as great.
        (n, channels), table = RANKED[5]
        wide = ((n, tuple((u, v, 300 * room) for u, v, room in channels)), table)
        self.assertEqual(critical_length(wide), 1801)
        self.assertIs(find_worm_knot(wide, 1800), None)
        self.assertIsNot(find_worm_knot(wide, 1801), None)


if __name__ == "__main__":
    unittest.main()
