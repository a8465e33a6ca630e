import itertools
import random
import unittest

from samples import CHAIN4, PAIR, RING3, greatest, put_at, ring
from worlds import EXAMPLE, MESH, TORUS, small_fabric
from worm_samples import LONG, RANKED, ROW, SEVERAL, Flits, drawn_states, drawn_worms, plain_worm_after

from calmfabric.errors import FabricError, NotAllowed, NotPossible
from calmfabric.networks import placements
from calmfabric.packets import empty_state, play, possible_steps
from calmfabric.wormplay import gather, is_worm_possible, play_worms, possible_worm_steps, worm_after
from calmfabric.worms import MAX_FLITS, empty_worms, is_worm_state, worm_length

# In LONG: one worm with the head in 1, one in 5 at the node 3, one at its goal; channel 3 and 4 are held by the last.
STATE = (10, ((4, 5, 7, (0, 1), (1, 1), 0), (6, 5, 0, (5,), (1,), 0), (9, 5, 2, (3, 4), (1, 2), 2)))


def rooms_of_one(fabric):
    (n, channels), table = fabric
    return ((n, tuple((u, v, 1) for u, v, _ in channels)), table)


class PossibleTest(unittest.TestCase):
    def yes(self, state, *steps):
        for step in steps:
            self.assertIs(is_worm_possible(LONG, state, step), True, step)

    def no(self, state, *steps):
        for step in steps:
            self.assertIs(is_worm_possible(LONG, state, step), False, step)

    def test_put(self):
        self.assertIs(is_worm_state(LONG, STATE), True)
        self.yes(STATE, ("put", 2, 5, 2, 1), ("put", 2, 5, 2, MAX_FLITS), ("put", 2, 5, 2, 17))
        self.no(STATE, ("put", 2, 5, 2, 0), ("put", 2, 5, 2, MAX_FLITS + 1), ("put", 2, 5, 2, 10 ** 3000))
        # No option there, for another goal, held.
        self.no(STATE, ("put", 1, 5, 2, 1), ("put", 2, 4, 2, 1), ("put", 2, 5, 3, 1), ("put", 0, 5, 0, 1), ("put", 1, 5, 5, 1))
        self.no(STATE, ("put", 3, 5, 3, 1), ("put", 4, 5, 4, 1), ("put", 5, 5, 4, 1))
        self.yes(empty_worms(), ("put", 0, 5, 0, 1), ("put", 1, 5, 1, 1), ("put", 1, 5, 5, 1), ("put", 4, 5, 4, 9))
        self.no(empty_worms(), ("put", 0, 5, 1, 1), ("put", 0, 1, 0, 1), ("put", 1, 5, 0, 1))

    def test_open(self):
        # 2 is free for the head in 1; 5 ends where 3 begins, and 3 is held.
        self.yes(STATE, ("open", 1, 2))
        self.no(STATE, ("open", 5, 3), ("open", 0, 1), ("open", 0, 5), ("open", 1, 3), ("open", 1, 5), ("open", 1, 1))
        # At its goal, a channel that no worm holds, a channel behind the head.
        self.no(STATE, ("open", 2, 3), ("open", 4, 2), ("open", 4, 4), ("open", 2, 2), ("open", 3, 4), ("open", 3, 2))
        self.yes((10, STATE[1][:2]), ("open", 5, 3))
        self.no((10, STATE[1][:2]), ("open", 5, 4), ("open", 5, 2))
        # From 0 both 1 and 5 can be opened.
        self.yes((1, ((0, 5, 0, (0,), (2,), 0),)), ("open", 0, 1), ("open", 0, 5))

    def test_pull(self):
        # 1 has no room for more, 4 neither.
        self.no(STATE, ("pull", 0, 1), ("pull", 3, 4), ("pull", 1, 0), ("pull", 4, 3), ("pull", 0, 5), ("pull", 1, 2))
        self.no(STATE, ("pull", 2, 3))
        state = put_at(STATE, (1, 2, 4), (1, 1))
        self.yes(state, ("pull", 3, 4))
        self.no(state, ("pull", 4, 3), ("pull", 3, 3), ("pull", 4, 4), ("pull", 5, 3))
        # Nothing to pull.
        self.no(put_at(STATE, (1, 2, 4), (0, 1)), ("pull", 3, 4))
        # Not neighbours, though both are channels of the worm.
        long = (1, ((0, 5, 3, (0, 1, 2, 3), (2, 0, 1, 1), 0),))
        self.yes(long, ("pull", 0, 1), ("pull", 2, 3))
        self.no(long, ("pull", 0, 2), ("pull", 1, 2), ("pull", 0, 3), ("pull", 2, 1), ("pull", 1, 0), ("pull", 3, 4))
        self.no(long, ("pull", 4, 5))

    def test_feed(self):
        self.yes(STATE, ("feed", 0), ("feed", 3))
        # No flits at the source, not the first channel, held by nobody.
        self.no(STATE, ("feed", 5), ("feed", 1), ("feed", 4), ("feed", 2))
        self.no(put_at(STATE, (1, 0, 4), (2, 1)), ("feed", 0))
        self.no(put_at(STATE, (1, 0, 2), 0), ("feed", 0))

    def test_take(self):
        self.yes(STATE, ("take", 4))
        # Not the head, not at its goal, held by nobody, no flit.
        self.no(STATE, ("take", 3), ("take", 0), ("take", 1), ("take", 5), ("take", 2))
        self.no(put_at(STATE, (1, 2, 4), (1, 0)), ("take", 4))

    def test_numbers_that_are_none(self):
        great = (6, 7, 64, 400, 10 ** 3000)
        for number in great:
            self.no(STATE, ("put", number, 5, 2, 1), ("put", 2, number, 2, 1), ("put", 2, 5, number, 1), ("open", number, 2))
            self.no(STATE, ("open", 1, number), ("pull", number, 1), ("pull", 0, number), ("feed", number), ("take", number))
            self.no(STATE, ("open", number, number), ("pull", number, number), ("put", number, number, number, number))
        # Those below 0 are none from behind.
        self.no(STATE, ("put", -4, 5, 2, 1), ("put", 2, -1, 2, 1), ("put", 2, 5, -4, 1), ("put", 2, 5, 2, -1), ("open", 1, -4))
        self.no(STATE, ("open", -5, 2), ("feed", -6), ("take", -2), ("pull", -3, -2))

    def test_each_step_with_small_numbers(self):
        seen = 0
        for fabric in SEVERAL:
            n, channels = fabric[0]
            m = len(channels)
            if m <= 9:
                numbers = itertools.product(range(n + 1), range(n + 1), range(m + 1), (0, 1, 4))
                steps = [("put",) + told for told in numbers]
                steps += [(word, c, c2) for word in ("open", "pull") for c in range(m + 1) for c2 in range(m + 1)]
                steps += [(word, c) for word in ("feed", "take") for c in range(m + 2)]
                for state in drawn_states(fabric):
                    flits = Flits(fabric, state)
                    for step in steps:
                        self.assertIs(is_worm_possible(fabric, state, step), flits.can(step), (state, step))
                        seen += flits.can(step)
        self.assertGreater(seen, 500)


class StepsTest(unittest.TestCase):
    def test_the_order(self):
        self.assertEqual(possible_worm_steps(LONG, STATE, (3, 1)), [
            ("put", 2, 5, 2, 1), ("put", 2, 5, 2, 3), ("open", 1, 2), ("feed", 0), ("feed", 3), ("take", 4),
        ])
        state = (3, ((0, 5, 0, (3, 4), (1, 1), 1), (1, 5, 3, (0,), (2,), 0)))
        self.assertEqual(possible_worm_steps(LONG, state, (2, 2)), [
            ("put", 1, 5, 1, 2), ("put", 1, 5, 5, 2), ("put", 2, 5, 2, 2), ("open", 0, 1), ("open", 0, 5),
            ("pull", 3, 4), ("take", 4),
        ])

    def test_just_the_possible_ones(self):
        words = set()
        for fabric in SEVERAL:
            for state in drawn_states(fabric, range(5)):
                for lengths in ((1,), (), (4, 2, 3), (5, 5), (0, 1, MAX_FLITS, MAX_FLITS + 1)):
                    right = Flits(fabric, state).steps(lengths)
                    self.assertEqual(possible_worm_steps(fabric, state, lengths), right)
                    words |= {step[0] for step in right}
        self.assertEqual(words, {"put", "open", "pull", "feed", "take"})

    def test_the_lengths_are_ascending_and_allowed(self):
        right = [("put", 0, 2, 0, k) for k in (3, 8, MAX_FLITS)] + [("put", 1, 2, 1, k) for k in (3, 8, MAX_FLITS)]
        self.assertEqual(possible_worm_steps(ROW, empty_worms(), (MAX_FLITS, MAX_FLITS + 1, 8, 0, 3, 8)), right)

    def test_the_greatest_fabric(self):
        fabric = greatest()
        steps = possible_worm_steps(fabric, empty_worms(), (1,))
        self.assertEqual(len(steps), len(placements(fabric)))
        self.assertEqual(steps, sorted(steps))

    def test_after(self):
        for fabric in SEVERAL:
            for state in drawn_states(fabric, range(4)):
                for step in Flits(fabric, state).steps((1, 2, 1000000) if len(state[1]) < 2 else (1, 3)):
                    if step[0] == "put" and step[4] > 100:
                        behind = worm_after(fabric, state, step)
                        self.assertEqual(behind[1][-1], (state[0], step[2], step[4] - 1, (step[3],), (1,), 0))
                    else:
                        self.assertEqual(worm_after(fabric, state, step), plain_worm_after(fabric, state, step))

    def test_releases(self):
        # Nothing is released as long as there are flits at the source.
        state = (1, ((0, 5, 1, (0, 1, 2), (0, 1, 1), 0),))
        self.assertEqual(worm_after(LONG, state, ("pull", 1, 2)), (1, ((0, 5, 1, (0, 1, 2), (0, 0, 2), 0),)))
        # The first channel.
        state = (1, ((0, 5, 0, (0, 1, 2), (1, 0, 1), 0),))
        self.assertEqual(worm_after(LONG, state, ("pull", 0, 1)), (1, ((0, 5, 0, (1, 2), (1, 1), 0),)))
        # Several.
        state = (1, ((0, 5, 0, (1, 2, 3), (1, 0, 1), 0),))
        self.assertEqual(worm_after(LONG, state, ("pull", 1, 2)), (1, ((0, 5, 0, (2, 3), (1, 1), 0),)))
        state = (1, ((0, 5, 0, (2, 3, 4), (1, 0, 0), 2),))
        behind = worm_after(LONG, state, ("pull", 2, 3))
        self.assertEqual(behind, (1, ((0, 5, 0, (3, 4), (1, 0), 2),)))
        self.assertEqual(worm_after(LONG, behind, ("pull", 3, 4)), (1, ((0, 5, 0, (4,), (1,), 2),)))
        # With the flit that leaves the last one, the worm is over.
        self.assertEqual(worm_after(LONG, (3, ((0, 5, 0, (4,), (1,), 2),)), ("take", 4)), (3, ()))
        two = (3, ((0, 5, 0, (4,), (1,), 2), (2, 5, 0, (0,), (1,), 0)))
        self.assertEqual(worm_after(LONG, two, ("take", 4)), (3, two[1][1:]))
        self.assertEqual(worm_after(LONG, (3, ((0, 5, 1, (4,), (1,), 2),)), ("take", 4)), (3, ((0, 5, 1, (4,), (0,), 3),)))
        # Empty channels behind the first one are not released before it.
        state = (1, ((0, 5, 0, (0, 1, 2), (2, 0, 1), 0),))
        self.assertEqual(worm_after(LONG, state, ("open", 2, 3)), (1, ((0, 5, 0, (0, 1, 2, 3), (2, 0, 0, 1), 0),)))
        # Opening takes the flit of a head that is the first channel.
        state = (1, ((0, 5, 0, (0,), (1,), 0),))
        self.assertEqual(worm_after(LONG, state, ("open", 0, 5)), (1, ((0, 5, 0, (5,), (1,), 0),)))
        state = (1, ((0, 5, 1, (0,), (1,), 0),))
        self.assertEqual(worm_after(LONG, state, ("open", 0, 5)), (1, ((0, 5, 1, (0, 5), (0, 1), 0),)))

    def test_several_channels_at_once(self):
        # The last flit behind goes on: the channels between are empty, and all but the head are released.
        state = (1, ((0, 5, 0, (1, 2, 3, 4), (1, 0, 0, 2), 0),))
        for step in (("pull", 1, 2), ("pull", 2, 3)):
            state = worm_after(LONG, state, step)
        self.assertEqual(state, (1, ((0, 5, 0, (3, 4), (1, 2), 0),)))
        state = (1, ((0, 5, 1, (1, 2, 3, 4), (0, 0, 0, 1), 0),))
        state = worm_after(LONG, state, ("feed", 1))
        self.assertEqual(state, (1, ((0, 5, 0, (1, 2, 3, 4), (1, 0, 0, 1), 0),)))
        self.assertEqual(worm_after(LONG, state, ("pull", 1, 2)), (1, ((0, 5, 0, (2, 3, 4), (1, 0, 1), 0),)))
        # The head goes on, and the channels behind it stay as long as the last flit is in the first one.
        state = worm_after(LONG, (1, ((0, 5, 0, (1, 2, 3), (1, 0, 1), 0),)), ("open", 3, 4))
        self.assertEqual(state, (1, ((0, 5, 0, (1, 2, 3, 4), (1, 0, 0, 1), 0),)))
        tail = (1, ((0, 5, 0, (4,), (2,), 0),))
        self.assertEqual(play_worms(LONG, tail, (("take", 4), ("take", 4))), (1, ()))

    def test_numbers_and_count(self):
        state = (7, ((3, 5, 0, (0,), (1,), 0),))
        behind = worm_after(LONG, state, ("put", 2, 5, 2, 4))
        self.assertEqual(behind, (8, ((3, 5, 0, (0,), (1,), 0), (7, 5, 3, (2,), (1,), 0))))
        self.assertEqual(worm_after(LONG, behind, ("put", 1, 5, 5, 1))[0], 9)
        self.assertEqual(worm_after(LONG, behind, ("open", 0, 1))[0], 8)

    def test_not_allowed(self):
        for step in (
            ("put", 2, 5, 2, 0), ("put", 0, 5, 0, 1), ("put", 9, 9, 9, 9), ("open", 5, 3), ("open", 4, 4),
            ("open", 9, 9),
            ("pull", 0, 1), ("pull", 9, 9), ("feed", 5), ("feed", 9), ("take", 3), ("take", 1), ("take", 9),
        ):
            with self.assertRaises(NotAllowed) as caught:
                worm_after(LONG, STATE, step)
            self.assertIsInstance(caught.exception, FabricError)
        for fabric in SEVERAL[:12]:
            for state in drawn_states(fabric):
                flits = Flits(fabric, state)
                for c in range(min(len(fabric[0][1]), 6)):
                    for step in (("feed", c), ("take", c), ("open", c, 0), ("pull", 0, c)):
                        if not flits.can(step):
                            self.assertRaises(NotAllowed, worm_after, fabric, state, step)


class PlayTest(unittest.TestCase):
    def test_the_examples(self):
        script = (("put", 0, 2, 0, 3), ("open", 0, 1), ("feed", 0))
        self.assertEqual(play_worms(ROW, empty_worms(), script), (1, ((0, 2, 1, (0, 1), (1, 1), 0),)))
        script = (("put", 0, 2, 0, 1), ("open", 0, 1))
        self.assertEqual(play_worms(ROW, empty_worms(), script), (1, ((0, 2, 0, (1,), (1,), 0),)))

    def test_drawn_scripts(self):
        for fabric in SEVERAL:
            for seed in range(4):
                script, states = drawn_worms(fabric, seed)
                self.assertEqual(play_worms(fabric, empty_worms(), script), states[-1])
                half = len(script) // 2
                self.assertEqual(play_worms(fabric, states[half], script[half:]), states[-1])
                self.assertEqual(play_worms(fabric, states[half], ()), states[half])

    def test_the_first_step_that_is_not_possible(self):
        wrong = (("take", 10 ** 3000), ("put", 0, 0, 0, 1), ("open", 0, 0))
        for fabric in SEVERAL:
            script, _ = drawn_worms(fabric, 2)
            for step in wrong:
                for k in {0, len(script) // 2, len(script)}:
                    for told in (script[:k] + (step,) + script[k:], script[:k] + (step,) + script[k:] + wrong):
                        with self.assertRaises(NotPossible) as caught:
                            play_worms(fabric, empty_worms(), told)
                        self.assertEqual(caught.exception.number, k)
                        self.assertIs(type(caught.exception.number), int)
                        self.assertIsInstance(caught.exception, FabricError)

    def test_a_worm_from_end_to_end(self):
        script = [("put", 0, 5, 0, 3), ("open", 0, 5), ("open", 5, 3), ("open", 3, 4), ("take", 4)]
        script += [("feed", 0), ("pull", 0, 5), ("pull", 5, 3), ("pull", 3, 4), ("take", 4)]
        state = play_worms(LONG, empty_worms(), tuple(script))
        self.assertEqual(state, (1, ((0, 5, 1, (0, 5, 3, 4), (0, 0, 0, 0), 2),)))
        script += [("feed", 0), ("pull", 0, 5), ("pull", 5, 3), ("pull", 3, 4)]
        state = play_worms(LONG, empty_worms(), tuple(script))
        self.assertEqual(state, (1, ((0, 5, 0, (4,), (1,), 2),)))
        self.assertEqual(play_worms(LONG, empty_worms(), tuple(script) + (("take", 4),)), (1, ()))

    def test_long_scripts(self):
        script = (("put", 0, 2, 0, 2001), ("open", 0, 1)) + (("take", 1), ("feed", 0), ("pull", 0, 1)) * 2000
        state = play_worms(ROW, empty_worms(), script)
        self.assertEqual(state, (1, ((0, 2, 0, (1,), (1,), 2000),)))


class KeptFlitsTest(unittest.TestCase):
    def test_the_length_stays_and_one_worm_changes(self):
        for fabric in SEVERAL:
            for seed in range(5):
                script, states = drawn_worms(fabric, seed)
                for step, before, behind in zip(script, states, states[1:]):
                    self.assertEqual(worm_after(fabric, before, step), behind)
                    was = {worm[0]: worm for worm in before[1]}
                    now = {worm[0]: worm for worm in behind[1]}
                    for number in set(was) & set(now):
                        self.assertEqual(worm_length(was[number]), worm_length(now[number]))
                        self.assertEqual(was[number][1], now[number][1])
                    changed = {number for number in set(was) | set(now) if was.get(number) != now.get(number)}
                    self.assertEqual(len(changed), 1)
                    number = changed.pop()
                    held = set(was[number][3]) if number in was else set()
                    taken = set(now[number][3]) - held if number in now else set()
                    # Only put and open take a channel, and just one.
                    self.assertEqual(len(taken), step[0] in ("put", "open"))
                    if step[0] == "put":
                        self.assertEqual(worm_length(now[number]), step[4])
                    if number not in now:
                        # All flits have left with the last one.
                        self.assertEqual((step[0], was[number][5]), ("take", worm_length(was[number]) - 1))
                    elif number in was and step[0] != "open":
                        self.assertTrue(set(now[number][3]) <= held)

    def test_no_worm_overtakes_itself(self):
        for fabric in SEVERAL:
            script, states = drawn_worms(fabric, 3)
            for before, behind in zip(states, states[1:]):
                for worm in before[1]:
                    for other in behind[1]:
                        if worm[0] == other[0]:
                            # The way is cut behind, and lengthened in front.
                            rest = worm[3][-len(other[3]):] if other[3][-1] == worm[3][-1] else worm[3][1 - len(other[3]):]
                            ahead = other[3] if other[3][-1] == worm[3][-1] else other[3][:-1]
                            self.assertTrue(ahead == () or rest == ahead)


class GatherTest(unittest.TestCase):
    def check(self, fabric, state):
        script = gather(fabric, state)
        self.assertIsInstance(script, tuple)
        flits = Flits(fabric, state)
        steps = []
        for number in [worm[0] for worm in state[1]]:
            while True:
                way = next(worm for worm in flits.worms if worm[0] == number)[2]
                told = [("pull", c, c2) for c, c2 in zip(way, way[1:])][::-1] + [("feed", way[0])]
                right = [step for step in told if flits.can(step)]
                if not right:
                    break
                steps.append(right[0])
                flits.do(right[0])
        self.assertEqual(script, tuple(steps))
        behind = play_worms(fabric, state, script)
        self.assertEqual(behind, flits.state())
        self.assertEqual([worm[0] for worm in behind[1]], [worm[0] for worm in state[1]])
        channels = fabric[0][1]
        for worm, old in zip(behind[1], state[1]):
            if channels[worm[3][-1]][1] != worm[1]:
                # Just the shortest end of the old way with room for all its flits, or the whole way.
                length = worm_length(worm)
                ends = [old[3][k:] for k in range(len(old[3]))]
                wide = [end for end in ends if sum(channels[c][2] for c in end) >= length]
                self.assertEqual(worm[3], min(wide, key=len) if wide else old[3])
        self.assertEqual(gather(fabric, behind), ())
        return len(script)

    def test_drawn_states(self):
        steps = 0
        for fabric in SEVERAL:
            for seed in range(6):
                for state in drawn_worms(fabric, seed)[1][::7]:
                    steps += self.check(fabric, state)
        self.assertGreater(steps, 500)

    def test_by_hand(self):
        state = (1, ((0, 5, 3, (0, 1, 2), (1, 1, 1), 0),))
        self.assertEqual(gather(LONG, state), (
            ("pull", 1, 2), ("pull", 0, 1), ("pull", 1, 2), ("feed", 0), ("pull", 0, 1), ("feed", 0), ("feed", 0),
        ))
        self.assertEqual(play_worms(LONG, state, gather(LONG, state)), (1, ((0, 5, 0, (0, 1, 2), (2, 1, 3), 0),)))
        self.assertEqual(gather(LONG, empty_worms()), ())
        # As many flits as there is room in 1 and 2: channel 0 is released.
        state = (1, ((0, 5, 1, (0, 1, 2), (1, 1, 1), 0),))
        self.assertEqual(play_worms(LONG, state, gather(LONG, state)), (1, ((0, 5, 0, (1, 2), (1, 3), 0),)))
        self.assertEqual(self.check(LONG, STATE), 2)

    def test_worms_at_their_goal(self):
        state = (1, ((0, 5, 2, (2, 3, 4), (0, 1, 0), 2),))
        self.assertEqual(gather(LONG, state), (
            ("pull", 3, 4), ("feed", 2), ("pull", 2, 3), ("pull", 3, 4), ("feed", 2), ("pull", 2, 3),
        ))
        self.assertEqual(play_worms(LONG, state, gather(LONG, state)), (1, ((0, 5, 0, (3, 4), (1, 2), 2),)))

    def test_great_rooms(self):
        fabric = (put_at(ROW[0], (1, 0, 2), 700), ROW[1])
        state = play_worms(fabric, empty_worms(), (("put", 0, 2, 0, MAX_FLITS),))
        self.assertEqual(gather(fabric, state), (("feed", 0),) * 699)
        state = play_worms(fabric, state, (("open", 0, 1),))
        self.assertEqual(gather(fabric, state), (("feed", 0),) * 700)

    def test_in_the_order_of_the_numbers(self):
        state = (9, ((3, 5, 1, (2,), (1,), 0), (5, 5, 1, (0,), (1,), 0), (8, 5, 0, (5,), (1,), 0)))
        self.assertEqual(gather(LONG, state), (("feed", 2), ("feed", 0)))


class OneFlitTest(unittest.TestCase):
    WORDS = {"put": "put", "open": "go", "take": "out"}

    def told(self, step):
        """The step of packets for one of worms of one flit."""
        return (self.WORDS[step[0]],) + (step[1:4] if step[0] == "put" else step[1:])

    def test_such_scripts_are_those_of_packets(self):
        moved = 0
        fabrics = (PAIR, RING3, CHAIN4, EXAMPLE, MESH, TORUS, ROW, LONG, ring(4, 2)) + RANKED
        for fabric in fabrics + tuple(small_fabric(seed) for seed in range(30)):
            ones = rooms_of_one(fabric)
            rng = random.Random(7)
            worms, packets = empty_worms(), empty_state(ones)
            for _ in range(40):
                steps = possible_worm_steps(fabric, worms, (1,))
                self.assertEqual([self.told(step) for step in steps], possible_steps(ones, packets))
                if not steps:
                    break
                moves = [step for step in steps if step[0] != "put"]
                step = rng.choice(moves if moves and rng.random() < 0.5 else steps)
                worms = worm_after(fabric, worms, step)
                packets = play(ones, packets, (self.told(step),))
                # Each worm holds one channel, and has its flit there.
                queues = [()] * len(packets[1])
                for number, goal, left, way, flits, home in worms[1]:
                    self.assertEqual((left, len(way), flits, home), (0, 1, (1,), 0))
                    queues[way[0]] = ((number, goal),)
                self.assertEqual(packets, (worms[0], tuple(queues)))
                moved += step[0] != "put"
        self.assertGreater(moved, 200)


class StuckTest(unittest.TestCase):
    def opens(self, fabric, state, lengths, limit=4000):
        """The channels from which a head opens another one in some continuation, with new worms of these lengths."""
        seen = {state[1]}
        waiting = [state]
        found = set()
        while waiting:
            now = waiting.pop()
            for step in possible_worm_steps(fabric, now, lengths):
                if step[0] == "open":
                    found.add(step[1])
                behind = worm_after(fabric, now, step)
                # The numbers do not matter for what is possible.
                plain = tuple((0,) + worm[1:] for worm in sorted(behind[1], key=lambda worm: worm[3]))
                if plain not in seen:
                    seen.add(plain)
                    waiting.append(behind)
            self.assertLess(len(seen), limit)
        return found

    def test_heads_that_are_stuck_for_ever(self):
        # In a ring of three each worm holds a channel, and waits for the next one; whatever is put, no head opens.
        state = play_worms(RING3, empty_worms(), (("put", 0, 2, 0, 1), ("put", 1, 0, 1, 2), ("put", 2, 1, 2, 1)))
        self.assertEqual(self.opens(RING3, state, (1, 2)), set())
        # With one of them at its goal all can open in the end.
        state = play_worms(RING3, empty_worms(), (("put", 0, 2, 0, 1), ("put", 1, 0, 1, 2), ("put", 2, 0, 2, 1)))
        self.assertEqual(self.opens(RING3, state, (1,)), {0, 1, 2})

    def test_a_worm_that_waits_for_itself(self):
        fabric = RANKED[5]
        script = (("put", 1, 3, 1, 7), ("open", 1, 7), ("open", 7, 0))
        for length, opens in ((6, True), (7, False)):
            state = play_worms(fabric, empty_worms(), (script[0][:4] + (length,),) + script[1:])
            state = play_worms(fabric, state, gather(fabric, state))
            # The rooms of 7 and 0 together are 6.
            self.assertEqual(("open", 0, 1) in possible_worm_steps(fabric, state, ()), opens)


if __name__ == "__main__":
    unittest.main()
