import itertools
import random
import unittest

from samples import CHAIN4, DOUBLE, MIXED, PAIR, RING3, WRONG_INTEGERS, WRONG_KINDS, deep, greatest, put_at, ring, table_of
from worlds import (
    EXAMPLE, MESH, SEVERAL, TORUS, drawn_script, packed_state, plain_after, plain_play, plain_possible, small_fabric, states_of,
)

from calmfabric.blocked import (
    blocked, greatest_jam, is_calm, is_dead, is_jam, is_stop, is_way_out, stop_of, stuck_packets, way_out,
)
from calmfabric.drains import drain, knot_script
from calmfabric.packets import empty_state, is_state, play, possible_steps
from calmfabric.cases import case_of
from calmfabric.verdicts import verdict

SMALL = (RING3, PAIR, EXAMPLE, CHAIN4, ring(4), ring(3, 2)) + tuple(small_fabric(seed) for seed in range(100))

# A ring 0 -> 1 -> 2 -> 0, a channel 0 -> 1 beside it, and one from 1 to the node 3; room for one or two.
BESIDE = (
    (4, ((0, 1, 1), (1, 2, 1), (2, 0, 1), (0, 1, 2), (1, 3, 1))),
    table_of(4, {
        (0, 1): (0, 3), (0, 2): (0, 3), (0, 3): (0, 3), (1, 2): (1,), (1, 0): (1,), (1, 3): (1, 4),
        (2, 0): (2,), (2, 1): (2,), (2, 3): (2,),
    }),
)
# The ring of BESIDE is full of packets that go on in it.
JAMMED = (9, (((0, 2),), ((1, 0),), ((2, 1),), (), ()))


def moves_of(fabric, state):
    return [step for step in plain_possible(fabric, state) if step[0] != "put"]


def freed_channels(fabric, state, limit=1500):
    """The channels whose first packets are moved in some state that steps without puts lead to; None if these are many."""
    seen = {state[1]}
    waiting = [state]
    freed = set()
    while waiting:
        now = waiting.pop()
        for step in moves_of(fabric, now):
            # The first step from a channel moves the packet that was the first one at the beginning.
            freed.add(step[1])
            behind = plain_after(fabric, now, step)
            if behind[1] not in seen:
                seen.add(behind[1])
                waiting.append(behind)
        if len(seen) > limit:
            return None
    return {c for c in freed if state[1][c]}


def plain_is_jam(fabric, state, some):
    """Whether a set of channels is a jam, by the words of [5.2]."""
    channels, table, queues = fabric[0][1], fabric[1], state[1]
    for c in some:
        if len(queues[c]) < channels[c][2]:
            return False
        goal = queues[c][0][1]
        if channels[c][1] == goal or not set(table[channels[c][1]][goal]) <= set(some):
            return False
    return True


def plain_jams(fabric, state):
    numbers = range(len(state[1]))
    subsets = itertools.chain(*[itertools.combinations(numbers, k) for k in range(len(numbers) + 1)])
    return [some for some in subsets if plain_is_jam(fabric, state, some)]


def small_states():
    """Small fabrics with states in them, with what can be freed in each."""
    for fabric in SMALL:
        for state in [packed_state(fabric, seed) for seed in range(4)] + states_of(fabric, range(2)):
            freed = freed_channels(fabric, state)
            if freed is not None:
                yield fabric, state, freed


class BlockedTest(unittest.TestCase):
    def test_against_all_states_that_steps_lead_to(self):
        some, none, all_of_them = 0, 0, 0
        for fabric, state, freed in small_states():
            packed = [c for c, queue in enumerate(state[1]) if queue]
            right = tuple(c for c in packed if c not in freed)
            self.assertEqual(blocked(fabric, state), right)
            numbers = sorted(number for c in right for number, _ in state[1][c])
            self.assertEqual(stuck_packets(fabric, state), numbers)
            self.assertIs(is_calm(fabric, state), right == ())
            self.assertIs(is_dead(fabric, state), packed != [] and list(right) == packed)
            some += 0 < len(right) < len(packed)
            none += packed != [] and right == ()
            all_of_them += packed != [] and list(right) == packed
        self.assertTrue(some > 15 and none > 50 and all_of_them > 20, (some, none, all_of_them))

    def test_puts_do_not_help(self):
        held = 0
        for fabric in SMALL:
            for seed in range(3):
                state = packed_state(fabric, seed)
                channels = blocked(fabric, state)
                queues = [state[1][c] for c in channels]
                rng = random.Random(seed)
                for _ in range(40 if channels else 0):
                    steps = plain_possible(fabric, state)
                    if steps:
                        state = plain_after(fabric, state, rng.choice(steps))
                    # Packets may come in behind, none goes.
                    for c, queue in zip(channels, queues):
                        self.assertEqual(state[1][c][:len(queue)], queue)
                held += len(channels)
        self.assertGreater(held, 100)

    def test_no_packets(self):
        for fabric in SEVERAL + (greatest(),):
            state = empty_state(fabric)
            self.assertEqual(greatest_jam(fabric, state), ())
            self.assertEqual(blocked(fabric, state), ())
            self.assertEqual(stuck_packets(fabric, state), [])
            self.assertIs(is_calm(fabric, state), True)
            self.assertIs(is_dead(fabric, state), False)
            self.assertIs(is_dead(fabric, (7, state[1])), False)

    def test_the_example(self):
        state = play(RING3, empty_state(RING3), (("put", 0, 2, 0), ("put", 1, 0, 1), ("put", 2, 1, 2)))
        self.assertEqual(greatest_jam(RING3, state), (0, 1, 2))
        self.assertEqual(blocked(RING3, state), (0, 1, 2))
        self.assertEqual(stuck_packets(RING3, state), [0, 1, 2])
        self.assertIs(is_dead(RING3, state), True)
        self.assertIs(is_calm(RING3, state), False)

    def test_first_packets_at_home(self):
        # The same ring, but one of the packets is where it wants to be.
        for c in range(3):
            state = put_at((9, (((0, 2),), ((1, 0),), ((2, 1),))), (1, c, 0, 1), (c + 1) % 3)
            self.assertEqual(greatest_jam(RING3, state), ())
            self.assertEqual(blocked(RING3, state), ())
        # Behind the first one at home others wait; they do not count.
        fabric = ring(3, 2)
        state = (9, (((0, 1), (1, 2)), ((2, 0), (3, 0)), ((4, 1), (5, 1))))
        self.assertEqual(blocked(fabric, state), ())
        state = (9, (((0, 2), (1, 1)), ((2, 0), (3, 2)), ((4, 1), (5, 0))))
        self.assertEqual(blocked(fabric, state), (0, 1, 2))

    def test_one_option_full_and_another_not(self):
        self.assertIs(is_state(BESIDE, JAMMED), True)
        # Channel 2 has the options 0 and 3, and 3 is free.
        self.assertEqual(greatest_jam(BESIDE, JAMMED), ())
        self.assertEqual(blocked(BESIDE, JAMMED), ())
        state = put_at(JAMMED, (1, 3), ((3, 2),))
        self.assertEqual(blocked(BESIDE, state), ())
        state = put_at(JAMMED, (1, 3), ((3, 2), (4, 1)))
        self.assertEqual(greatest_jam(BESIDE, state), (0, 1, 2, 3))
        self.assertEqual(blocked(BESIDE, state), (0, 1, 2, 3))
        state = put_at(JAMMED, (1, 3), ((4, 1), (3, 2)))
        self.assertEqual(greatest_jam(BESIDE, state), ())
        # A packet for 3 gets away by channel 4, if there is room.
        state = put_at(JAMMED, (1, 3), ((3, 3), (4, 1)))
        self.assertEqual(blocked(BESIDE, state), ())
        state = put_at(state, (1, 4), ((5, 3),))
        self.assertEqual(blocked(BESIDE, state), ())

    def test_not_full_but_all_options_in_the_jam(self):
        # Without the channel 3 as an option of 2, the ring jams, and 3 with room left waits for it.
        network, table = BESIDE
        fabric = (network, put_at(table, (0, 1), (0,)))
        state = put_at(JAMMED, (1, 3), ((3, 2),))
        self.assertIs(is_state(fabric, state), True)
        self.assertEqual(greatest_jam(fabric, state), (0, 1, 2))
        self.assertEqual(blocked(fabric, state), (0, 1, 2, 3))
        self.assertEqual(stuck_packets(fabric, state), [0, 1, 2, 3])
        self.assertIs(is_dead(fabric, state), True)
        # A second packet fills it, and it is in the jam, too.
        self.assertEqual(greatest_jam(fabric, put_at(state, (1, 3), ((3, 2), (8, 1)))), (0, 1, 2, 3))
        # With an option outside, or at home, it is free.
        for queue in (((3, 3),), ((3, 1),), ((3, 1), (5, 2)), ()):
            state = put_at(JAMMED, (1, 3), queue)
            self.assertEqual(blocked(fabric, state), (0, 1, 2))
            self.assertIs(is_dead(fabric, state), queue == ())
            self.assertIs(is_calm(fabric, state), False)

    def test_stuck_packets_are_ascending(self):
        fabric = ring(3, 2)
        state = (40, (((7, 2), (31, 1)), ((2, 0), (9, 2)), ((39, 1), (0, 0))))
        self.assertEqual(stuck_packets(fabric, state), [0, 2, 7, 9, 31, 39])

    def test_great_fabrics(self):
        fabric = greatest()
        word, knot = verdict(case_of(fabric))
        self.assertEqual(word, "knot")
        state = play(fabric, empty_state(fabric), knot_script(fabric[0], knot))
        self.assertEqual(greatest_jam(fabric, state), tuple(range(400)))
        count, queues = state
        state = (count, queues[:399] + (queues[399][1:],))
        self.assertEqual(greatest_jam(fabric, state), ())
        script = way_out(fabric, state, 5)
        self.assertLessEqual(len(script), 400)
        self.assertIs(is_way_out(fabric, state, 5, script), True)

    def test_a_long_row_waits_for_one_place(self):
        fabric = ring(64)
        state = (99, tuple(((u, (u + 2) % 64),) for u in range(64)))
        self.assertEqual(blocked(fabric, state), tuple(range(64)))
        state = put_at(state, (1, 17), ())
        self.assertEqual(blocked(fabric, state), ())
        script = way_out(fabric, state, 18)
        self.assertEqual(script, tuple(("go", u % 64, (u + 1) % 64) for u in range(80, 17, -1)))
        self.assertEqual(len(script), 63)


class JamTest(unittest.TestCase):
    def test_the_greatest_jam_has_every_jam(self):
        several = 0
        for fabric in SMALL:
            for seed in range(5):
                state = packed_state(fabric, seed)
                jams = plain_jams(fabric, state)
                greatest_one = greatest_jam(fabric, state)
                self.assertIn(greatest_one, jams)
                self.assertEqual(set(greatest_one), set().union(*jams))
                several += len(jams) > 2
        self.assertGreater(several, 10)

    def test_all_sets_of_channels(self):
        for fabric in SMALL[:40]:
            for seed in range(3):
                state = packed_state(fabric, seed)
                jams = plain_jams(fabric, state)
                for k in range(len(state[1]) + 1):
                    for some in itertools.combinations(range(len(state[1])), k):
                        self.assertIs(is_jam(fabric, state, some), some in jams)
                    for some in itertools.permutations(range(min(len(state[1]), 4)), min(k, 4)):
                        self.assertIs(is_jam(fabric, state, some), some in jams)

    def test_the_empty_tuple(self):
        for fabric in SEVERAL:
            for state in states_of(fabric):
                self.assertIs(is_jam(fabric, state, ()), True)

    def test_one_thing_wrong(self):
        state = put_at(JAMMED, (1, 3), ((3, 2), (4, 1)))
        self.assertIs(is_jam(BESIDE, state, (0, 1, 2, 3)), True)
        for value in (
            (0, 1, 2), (1, 2, 3), (0, 1, 3), (0, 2, 3), (0, 1, 2, 4), (0, 1, 2, 3, 4), (0,), (3,),
            (0, 1, 2, 2), (0, 0, 1, 2, 3), (0, 1, 2, 3, 3), (3, 2, 1, 0), (0, 2, 1, 3), (1, 2, 3, 0),
            (0, 1, 2, 3, 5), (0, 1, 2, 5), (-1, 0, 1, 2, 3), (-5, 1, 2, 3), (0, 1, 2, 3, 400), (0, 1, 2, 10 ** 3000),
            (False, 1, 2, 3), (0, True, 2, 3), ("0", 1, 2, 3), (0, 1, 2, None), (0, 1, 2, (3,)), ((0, 1, 2, 3),),
            [0, 1, 2, 3],
            ((), ()), ((),), "0123", "", 0, 3, deep(80), deep(80, (0, 1, 2, 3)), {0: 1},
        ):
            self.assertIs(is_jam(BESIDE, state, value), False, value)
        for wrong in WRONG_KINDS + WRONG_INTEGERS:
            self.assertIs(is_jam(BESIDE, state, wrong), False)
            for k in range(4):
                self.assertIs(is_jam(BESIDE, state, put_at((0, 1, 2, 3), (k,), wrong)), False)

    def test_a_channel_of_the_jam_changes(self):
        state = put_at(JAMMED, (1, 3), ((3, 2), (4, 1)))
        for queue in ((), ((3, 2),), ((3, 1), (4, 2)), ((3, 3), (4, 2))):
            self.assertIs(is_jam(BESIDE, put_at(state, (1, 3), queue), (0, 1, 2, 3)), False)
        self.assertIs(is_jam(BESIDE, put_at(state, (1, 3), ((3, 0), (4, 1))), (0, 1, 2, 3)), True)


class StopTest(unittest.TestCase):
    def test_stops_or_ways_out(self):
        stops, ways, longest = 0, 0, 0
        for fabric, state, freed in small_states():
            for c, queue in enumerate(state[1]):
                if queue:
                    stop = stop_of(fabric, state, c)
                    script = way_out(fabric, state, c)
                    self.assertIs(stop is None, c in freed)
                    self.assertIs(script is None, c not in freed)
                    if stop is not None:
                        self.assertEqual(stop, greatest_jam(fabric, state))
                        self.assertIs(is_stop(fabric, state, c, stop), True)
                        stops += 1
                    else:
                        self.check_way_out(fabric, state, c, script)
                        ways += 1
                        longest = max(longest, len(script))
        self.assertTrue(stops > 200 and ways > 400 and longest >= 4, (stops, ways, longest))

    def check_way_out(self, fabric, state, c, script):
        self.assertIsInstance(script, tuple)
        self.assertTrue(1 <= len(script) <= len(state[1]))
        number = state[1][c][0][0]
        now = state
        for k, step in enumerate(script):
            self.assertNotEqual(step[0], "put")
            self.assertIn(step, plain_possible(fabric, now))
            self.assertEqual(now[1][c][0][0], number)
            now = plain_after(fabric, now, step)
        self.assertEqual(script[-1][1], c)
        self.assertNotEqual((now[1][c] or ((-1, -1),))[0][0], number)
        self.assertIs(is_way_out(fabric, state, c, script), True)

    def test_in_greater_fabrics(self):
        for fabric in SEVERAL + (greatest(),):
            for seed in range(3):
                state = packed_state(fabric, seed)
                for c, queue in list(enumerate(state[1]))[:40]:
                    if queue:
                        stop = stop_of(fabric, state, c)
                        script = way_out(fabric, state, c)
                        self.assertEqual((stop is None) + (script is None), 1)
                        if stop is not None:
                            self.assertIs(is_stop(fabric, state, c, stop), True)
                        else:
                            self.assertIs(is_way_out(fabric, state, c, script), True)
                            self.assertLessEqual(len(script), len(state[1]))

    def test_empty_channels_have_neither(self):
        for c in (3, 4):
            self.assertIs(stop_of(BESIDE, JAMMED, c), None)
            self.assertIs(way_out(BESIDE, JAMMED, c), None)

    def test_the_way_comes_back_to_its_channel(self):
        # Channel 0 has one packet and room for two; its option 1 is full and can only go back to 0.
        network = (3, ((0, 1, 2), (1, 0, 1), (0, 2, 1), (1, 2, 1)))
        fabric = (network, table_of(3, {(0, 2): (0, 2), (1, 2): (1,), (0, 1): (0,), (1, 0): (1,)}))
        # For 2 the node 0 has the options 0 and 2, the node 1 has 1 alone.
        state = (3, (((0, 2),), ((1, 2),), ((2, 2),), ()))
        self.assertIs(is_state(fabric, state), True)
        self.check_way_out(fabric, state, 0, way_out(fabric, state, 0))
        back = (("go", 1, 0), ("go", 0, 1))
        self.assertIs(is_way_out(fabric, state, 0, back), True)
        self.assertIs(is_way_out(fabric, state, 1, back[:1]), True)
        self.assertIs(is_way_out(fabric, state, 1, back), False)

    def test_is_stop(self):
        network, table = BESIDE
        fabric = (network, put_at(table, (0, 1), (0,)))
        state = put_at(put_at(JAMMED, (1, 3), ((3, 2),)), (1, 4), ((7, 3),))
        for c in range(4):
            self.assertIs(is_stop(fabric, state, c, (0, 1, 2)), True)
            for value in (
                (), (0, 1), (0, 1, 2, 3), (0, 1, 2, 4), (1, 2), (0, 1, 2, 2), (2, 1, 0), (0, 1, 5), (-3, -2, -1),
                (0, True, 2),
                (False, 1, 2), None, True, False, 0, 2, "012", ((0, 1, 2),), [0, 1, 2], deep(80), deep(80, (0, 1, 2)),
            ):
                self.assertIs(is_stop(fabric, state, c, value), False, (c, value))
            for wrong in WRONG_KINDS + WRONG_INTEGERS:
                self.assertIs(is_stop(fabric, state, c, wrong), False)
                self.assertIs(is_stop(fabric, state, c, (0, 1, wrong)), False)
                self.assertIs(is_stop(fabric, state, c, (wrong, 1, 2)), False)
        # Channel 4 is at home; an empty one, one with another option, and one at home are not stopped by the jam.
        self.assertIs(is_stop(fabric, state, 4, (0, 1, 2)), False)
        for queue in ((), ((3, 3),), ((3, 1),)):
            for value in ((0, 1, 2), (), (0, 1, 2, 3)):
                self.assertIs(is_stop(fabric, put_at(JAMMED, (1, 3), queue), 3, value), False)
        # With all options in the jam a channel is stopped by it, and the greatest jam may have more.
        two = ((6, ((0, 1, 1), (1, 0, 1), (2, 3, 1), (3, 2, 1), (4, 0, 1))), table_of(6, {
            (0, 5): (0,), (1, 5): (1,), (2, 5): (2,), (3, 5): (3,), (4, 5): (4,),
        }))
        full = (5, tuple(((k, 5),) for k in range(5)))
        self.assertEqual(greatest_jam(two, full), (0, 1, 2, 3, 4))
        for value, right in (((0, 1), (0, 1, 4)), ((2, 3), (2, 3)), ((0, 1, 2, 3), (0, 1, 2, 3, 4)), ((0, 1, 4), (0, 1, 4))):
            for c in range(5):
                self.assertIs(is_stop(two, full, c, value), c in right)

    def test_is_way_out_against_all_short_scripts(self):
        found = 0
        for fabric in (EXAMPLE, PAIR, RING3) + SMALL[6:14]:
            many = len(fabric[0][1])
            steps = [("out", c) for c in range(many)] + [("go", c, c2) for c in range(many) for c2 in range(many)]
            steps += [step for step in plain_possible(fabric, empty_state(fabric)) if step[0] == "put"][:2]
            state = packed_state(fabric, 2)
            for script in itertools.chain([()], *[itertools.product(steps, repeat=k) for k in (1, 2)]):
                played = plain_play(fabric, state, script) is not None and "put" not in [step[0] for step in script]
                for c in range(many):
                    moved = [k for k, step in enumerate(script) if step[1] == c and step[0] != "put"]
                    right = played and script != () and moved == [len(script) - 1] and state[1][c] != ()
                    self.assertIs(is_way_out(fabric, state, c, script), right, (script, c))
                    found += right
        self.assertGreater(found, 30)

    def test_is_way_out_with_one_thing_wrong(self):
        # 1 makes room for 0; the second packet of 0 does so, too, later on.
        fabric = ring(3, 2)
        state = (9, (((0, 2), (1, 2)), ((2, 2), (3, 0)), ()))
        right = (("out", 1), ("go", 0, 1))
        self.assertIs(is_way_out(fabric, state, 0, right), True)
        self.assertIs(is_way_out(fabric, state, 0, (("out", 1), ("go", 1, 2), ("go", 0, 1))), True)
        for value in (
            (), right[:1], right[1:], right[::-1], right + right[:1], right + (("go", 0, 1),), right + (("go", 1, 2),),
            (("out", 1), ("go", 1, 2), ("go", 0, 1), ("go", 0, 1)), (("out", 1), ("go", 0, 1), ("go", 1, 2)),
            (("out", 1), ("put", 2, 0, 2), ("go", 0, 1)), (("put", 2, 0, 2),) + right, right + (("put", 0, 1, 0),),
            (("out", 1), ("out", 0)), (("out", 1), ("go", 0, 2)), (("out", 1), ("out", 1), ("go", 0, 1)),
            (("out", 2),) + right,
            (("out", 1), ("go", 0, True)), (("out", 1), ("go", False, 1)), (("out", True), ("go", 0, 1)),
            (("out", 1, 0), ("go", 0, 1)),
            (("out", 1), ("go", 0)), (("out", 1), ("go", 0, 1, 2)), (("out", 1), ("Go", 0, 1)),
            (("out",), ("go", 0, 1)), ("out", 1),
            (("out", 1), ()), ((), ("go", 0, 1)), (("out", 1), "go"), list(right), "go", None, True, False, 0, 1,
            deep(80),
            deep(80, right), (right,), (("out", 1), ["go", 0, 1]), (("out", -2), ("go", 0, 1)),
            (("out", 10 ** 3000), ("go", 0, 1)),
            (("out", 1), ("go", 0, 10 ** 3000)), (("out", deep(78)), ("go", 0, 1)), (("out", 1), ("go", 0, "1")),
            (("go", 1, 2), ("go", 0, 1)),
        ):
            self.assertIs(is_way_out(fabric, state, 0, value), False, value)
        for wrong in WRONG_KINDS + WRONG_INTEGERS:
            self.assertIs(is_way_out(fabric, state, 0, wrong), False)
            for path in ((0,), (1,), (0, 0), (0, 1), (1, 0), (1, 1), (1, 2)):
                self.assertIs(is_way_out(fabric, state, 0, put_at(right, path, wrong)), False, (path, wrong))
        # For another channel it is none, and for an empty one nothing is.
        for c in (1, 2):
            self.assertIs(is_way_out(fabric, state, c, right), False)
        self.assertIs(is_way_out(fabric, state, 2, (("out", 1), ("go", 1, 2), ("go", 2, 0))), False)
        self.assertIs(is_way_out(fabric, state, 2, (("out", 1), ("go", 1, 2), ("out", 2))), False)
        self.assertIs(is_way_out(fabric, state, 1, (("out", 1),)), True)

    def test_there_is_no_way_out_of_a_blocked_channel(self):
        tried = 0
        for fabric in SMALL[:30]:
            state = packed_state(fabric, 1)
            for c in blocked(fabric, state):
                script, _ = drawn_script(fabric, c)
                for k in range(len(script)):
                    self.assertIs(is_way_out(fabric, state, c, script[:k]), False)
                    tried += 1
        self.assertGreater(tried, 50)


class DeadTest(unittest.TestCase):
    def test_no_step_but_put(self):
        dead, none = 0, 0
        for fabric in SMALL:
            for seed in range(8):
                state = packed_state(fabric, seed)
                words = {step[0] for step in possible_steps(fabric, state)}
                packets = any(state[1])
                if is_dead(fabric, state):
                    self.assertLessEqual(words, {"put"})
                    self.assertTrue(packets)
                    dead += 1
                elif words <= {"put"}:
                    self.assertFalse(packets)
                    none += 1
        self.assertTrue(dead > 20 and none > 3, (dead, none))

    def test_some_blocked_and_others_not(self):
        network, table = BESIDE
        fabric = (network, put_at(table, (0, 1), (0,)))
        state = put_at(JAMMED, (1, 4), ((7, 3),))
        self.assertEqual(blocked(fabric, state), (0, 1, 2))
        self.assertIs(is_calm(fabric, state), False)
        self.assertIs(is_dead(fabric, state), False)
        self.assertIs(is_dead(fabric, JAMMED), True)

    def test_calm_states(self):
        for fabric in (CHAIN4, DOUBLE, EXAMPLE, TORUS):
            for seed in range(4):
                state = packed_state(fabric, seed)
                self.assertIs(is_calm(fabric, state), True)
                self.assertIs(is_dead(fabric, state), False)

    def test_states_of_fabrics_with_ranks_are_calm(self):
        # What can be drained is not blocked.
        calm = 0
        for fabric in SMALL + (MIXED, MESH):
            word, ranks = verdict(case_of(fabric))
            for seed in range(3 if word == "ranks" else 0):
                state = packed_state(fabric, seed)
                self.assertIs(is_calm(fabric, state), True)
                self.assertFalse(any(play(fabric, state, drain(fabric, state, ranks))[1]))
                calm += 1
        self.assertGreater(calm, 30)


if __name__ == "__main__":
    unittest.main()
