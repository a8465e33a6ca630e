import itertools
import unittest

from samples import CHAIN4, PAIR, RING3, WRONG_INTEGERS, WRONG_KINDS, deep, greatest, put_at, ring, table_of
from worm_samples import (
    LONG, RANKED, ROW, SEVERAL, plain_candidates, plain_least, plain_options, plain_ways, situations_of,
)

from calmfabric.networks import placements
from calmfabric.wormplay import gather, play_worms, worm_after
from calmfabric.worms import MAX_FLITS, empty_worms
from calmfabric.wormways import candidates, is_idle, is_way, least_length, way_options

SMALL = tuple(fabric for fabric in SEVERAL if len(fabric[0][1]) <= 9)


class WayTest(unittest.TestCase):
    def test_all_rows_of_channels(self):
        right, wrong = 0, 0
        for fabric in SMALL:
            many = len(fabric[0][1])
            for d in range(fabric[0][0]):
                ways = plain_ways(fabric, d)
                for k in range(4):
                    for row in itertools.permutations(range(many), k):
                        self.assertIs(is_way(fabric, d, row), row in ways)
                        right += row in ways
                        wrong += row not in ways
                for way in ways:
                    self.assertIs(is_way(fabric, d, way), True)
        self.assertTrue(right > 200 and wrong > 1000, (right, wrong))

    def test_options_and_least_lengths(self):
        for fabric in SMALL:
            for d in range(fabric[0][0]):
                for way in plain_ways(fabric, d):
                    self.assertEqual(way_options(fabric, d, way), plain_options(fabric, d, way))
                    self.assertEqual(least_length(fabric[0], way), plain_least(fabric, way))
                    # A way is home exactly if it has no options.
                    self.assertIs(way_options(fabric, d, way) == (), fabric[0][1][way[-1]][1] == d)

    def test_by_hand(self):
        self.assertIs(is_way(LONG, 5, (0, 1, 2, 3)), True)
        self.assertIs(is_way(LONG, 5, (0, 5, 3, 4)), True)
        self.assertIs(is_way(LONG, 5, (4,)), True)
        self.assertEqual(way_options(LONG, 5, (0,)), (1, 5))
        self.assertEqual(way_options(LONG, 5, (0, 1)), (2,))
        self.assertEqual(way_options(LONG, 5, (0, 5, 3, 4)), ())
        self.assertEqual(least_length(LONG[0], (0,)), 1)
        self.assertEqual(least_length(LONG[0], (4,)), 1)
        self.assertEqual(least_length(LONG[0], (0, 1)), 2)
        self.assertEqual(least_length(LONG[0], (0, 1, 2, 3)), 1 + 1 + 3 + 2)
        self.assertEqual(least_length(LONG[0], (1, 2)), 4)

    def test_one_thing_wrong(self):
        right = (0, 1, 2, 3)
        for value in (
            (), (0, 1, 1), (0, 0), (0, 1, 2, 3, 3), (0, 1, 2, 3, 0), (0, 2), (1, 0), (0, 1, 3), (5, 2), (3, 2, 1, 0),
            (0, 1, 2, 4),
            (-1,), (6,), (0, -5), (0, 6), (10 ** 3000,), (0, 10 ** 3000), (False,), (False, 1), (0, True), (0, "1"),
            (None,), (0, None),
            ((0,),), (0, (1,)), [0, 1], "01", 0, 1, None, True, False, deep(80), deep(80, right), (right,), {0: 1},
        ):
            self.assertIs(is_way(LONG, 5, value), False, value)
        for wrong in WRONG_KINDS + WRONG_INTEGERS:
            self.assertIs(is_way(LONG, 5, wrong), False)
            for k in range(4):
                self.assertIs(is_way(LONG, 5, put_at(right, (k,), wrong)), False)

    def test_goals_that_are_none(self):
        for d in (0, 1, 2, 3, 4):
            self.assertIs(is_way(LONG, d, (0, 1)), False)
        for d in (-1, 6, 7, 64, 10 ** 3000, -10 ** 3000):
            for way in ((0,), (0, 1, 2, 3, 4), (), (4,)):
                self.assertIs(is_way(LONG, d, way), False)
        # The last node from behind is none, either.
        self.assertIs(is_way(PAIR, -1, (0,)), False)
        self.assertIs(is_way(PAIR, 1, (0,)), True)

    def test_a_way_does_not_go_on_behind_its_goal(self):
        self.assertIs(is_way(RING3, 2, (0, 1)), True)
        self.assertIs(is_way(RING3, 2, (0, 1, 2)), False)
        self.assertIs(is_way(RING3, 2, (2, 0, 1)), False)
        self.assertIs(is_way(RING3, 1, (2, 0)), True)

    def test_what_the_least_length_means(self):
        # A worm that waits on its way, all flits gathered, releases the first channel exactly if it has fewer flits.
        seen = 0
        for fabric in SMALL:
            channels = fabric[0][1]
            for d in range(fabric[0][0]):
                for way in plain_ways(fabric, d)[:12]:
                    least = plain_least(fabric, way)
                    if channels[way[-1]][1] != d and least < 50:
                        for length in (least - 1, least, least + 1):
                            if length > 0:
                                state = play_worms(fabric, empty_worms(), (("put", channels[way[0]][0], d, way[0], length),))
                                for c, c2 in zip(way, way[1:]):
                                    if length < len(way):
                                        break
                                    state = worm_after(fabric, state, ("open", c, c2))
                                    # The flits follow when the first channel has none left.
                                    if state[1][0][4][-2:-1] == (0,) and c2 != way[-1]:
                                        state = play_worms(fabric, state, gather(fabric, state))
                                state = play_worms(fabric, state, gather(fabric, state))
                                if state[1][0][3][-1] == way[-1] and length >= len(way):
                                    self.assertIs(state[1][0][3] == way, length >= least)
                                    seen += 1
        self.assertGreater(seen, 100)


class CandidatesTest(unittest.TestCase):
    def check(self, fabric, longest, chosen, barred):
        seen = 0
        for c in range(len(fabric[0][1])):
            right = plain_candidates(fabric, longest, chosen, barred, c)
            found = candidates(fabric, longest, chosen, barred, c)
            self.assertIsInstance(found, list)
            self.assertEqual(found, right)
            self.assertIs(is_idle(fabric, longest, chosen, barred, c), right == [])
            seen += len(right)
        return seen

    def test_against_all_ways(self):
        found = {}
        for fabric in SMALL:
            least = [plain_least(fabric, way) for d in range(fabric[0][0]) for way in plain_ways(fabric, d)] or [1]
            lengths = {1, MAX_FLITS, max(least), max(least) - 1, sorted(least)[len(least) // 2]}
            for longest in lengths - {0}:
                for seed in range(12):
                    chosen, barred = situations_of(fabric, seed) if seed else ((), ())
                    many = self.check(fabric, longest, chosen, barred)
                    key = (longest == 1, chosen != (), barred != ())
                    found[key] = found.get(key, 0) + many
        # Each kind of situation has candidates.
        self.assertEqual(len(found), 8)
        self.assertGreater(min(found.values()), 20, found)

    def test_by_hand(self):
        self.assertEqual(candidates(LONG, 1, (), (), 0), [(5, (0,))])
        self.assertEqual(candidates(LONG, 2, (), (), 0), [(5, (0,)), (5, (0, 1)), (5, (0, 5))])
        self.assertEqual(candidates(LONG, 2, (), (), 1), [(5, (0, 1)), (5, (1,))])
        self.assertEqual(candidates(LONG, 4, (), (), 2), [(5, (1, 2)), (5, (2,)), (5, (2, 3))])
        self.assertEqual(candidates(LONG, 5, (), (), 2), [(5, (0, 1, 2)), (5, (1, 2)), (5, (2,)), (5, (2, 3))])
        # None ends where an option is barred, and none goes through a barred or a chosen channel.
        self.assertEqual(candidates(LONG, 9, (), (1,), 0), [(5, (0, 5)), (5, (0, 5, 3))])
        self.assertEqual(candidates(LONG, 9, (), (5, 2), 0), [])
        self.assertEqual(candidates(LONG, 9, (), (4,), 0), [(5, (0,)), (5, (0, 1)), (5, (0, 1, 2)), (5, (0, 5))])
        self.assertEqual(candidates(LONG, 9, ((5, (1, 2)),), (), 0), [(5, (0,)), (5, (0, 5)), (5, (0, 5, 3))])
        self.assertEqual(candidates(LONG, 9, ((5, (1, 2)),), (), 2), [])
        self.assertEqual(candidates(LONG, 9, (), (0,), 0), [])
        # Channel 4 is home for its only goal.
        self.assertEqual(candidates(LONG, MAX_FLITS, (), (), 4), [])
        self.assertIs(is_idle(LONG, MAX_FLITS, (), (), 4), True)
        self.assertIs(is_idle(LONG, MAX_FLITS, (), (), 3), False)
        self.assertIs(is_idle(LONG, MAX_FLITS, (), (4,), 3), True)
        self.assertIs(is_idle(LONG, 9, (), (5, 2), 0), True)
        self.assertIs(is_idle(LONG, 1, (), (1,), 0), True)
        self.assertIs(is_idle(LONG, 2, (), (1,), 0), False)

    def test_just_the_least_length(self):
        for fabric in RANKED + (ring(4, 3), ROW, CHAIN4):
            for d in range(fabric[0][0]):
                for way in plain_ways(fabric, d):
                    if fabric[0][1][way[-1]][1] != d:
                        least = plain_least(fabric, way)
                        for c in way:
                            self.assertIn((d, way), candidates(fabric, least, (), (), c))
                            if least > 1:
                                self.assertNotIn((d, way), candidates(fabric, least - 1, (), (), c))

    def test_options_on_chosen_ways_and_on_the_way_itself(self):
        fabric = RANKED[5]
        # The worm waits for its own first channel.
        self.assertIn((3, (1, 7, 0)), candidates(fabric, 7, (), (), 7))
        self.assertIn((2, (0,)), candidates(RING_OF_4, 5, ((2, (1,)),), (), 0))

    def test_long_rings(self):
        fabric = ring(64, 1000)
        self.assertIs(is_idle(fabric, MAX_FLITS, (), (), 5), False)
        self.assertIs(is_idle(fabric, 1, (), tuple(range(6, 64)), 5), True)
        self.assertEqual(len(candidates(fabric, 1, (), (), 5)), 62)
        # Those ways of two channels, with 5 in front and behind, whose goal is further on.
        self.assertEqual(len(candidates(fabric, 1001, (), (), 5)), 62 + 2 * 61)

    def test_many_channels(self):
        fabric = greatest()
        self.assertIs(is_idle(fabric, 1, (), (), 70), False)
        out = fabric[1][fabric[0][1][70][1]][(fabric[0][1][70][1] + 30) % 64]
        self.assertIs(is_idle(fabric, 1, (), out[:1], 70), True)
        self.assertIs(is_idle(fabric, MAX_FLITS, (), out[:1], 70), False)
        self.assertIs(is_idle(fabric, MAX_FLITS, (), out, 70), True)
        right = [(d, (70,)) for c, d in placements(fabric) if c == 70 and d != fabric[0][1][70][1]]
        self.assertEqual(candidates(fabric, 1, (), (), 70), right)


# A ring of four channels that go on to 2 from everywhere but 2.
RING_OF_4 = ((4, ((0, 1, 1), (1, 2, 1), (2, 3, 1), (3, 0, 1))), table_of(4, {
    (0, 2): (0,), (1, 2): (1,), (3, 2): (3,), (2, 1): (2,), (3, 1): (3,), (0, 1): (0,),
}))


if __name__ == "__main__":
    unittest.main()
