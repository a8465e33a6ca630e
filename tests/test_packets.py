import collections
import itertools
import random
import unittest

from samples import (
    CHAIN4, DOUBLE, MIXED, NO_OPTIONS, PAIR, RING3, RING5, WRONG_INTEGERS, WRONG_KINDS, deep, greatest, paths_of, put_at,
    random_fabric, table_of,
)
from worlds import EXAMPLE, MESH, TORUS, drawn_script, plain_after, plain_possible, states_of
from worlds import SEVERAL as WORLDS

from calmfabric.errors import FabricError, NotAllowed, NotPossible
from calmfabric.frames import mesh, network_of
from calmfabric.networks import is_home, placements
from calmfabric.packets import (
    after, empty_state, first_of, is_full, is_possible, is_state, is_step, packets_in, play, possible_steps, puts,
)
from calmfabric.routings import dimension_order

SEVERAL = WORLDS + tuple(random_fabric(seed) for seed in range(25))


class StateTest(unittest.TestCase):
    def test_empty_state(self):
        self.assertEqual(empty_state(EXAMPLE), (0, ((), (), ())))
        self.assertEqual(empty_state(NO_OPTIONS), (0, ((),)))
        self.assertEqual(empty_state(greatest()), (0, ((),) * 400))
        for fabric in SEVERAL:
            self.assertIs(is_state(fabric, empty_state(fabric)), True)

    def test_states_that_steps_lead_to(self):
        for fabric in SEVERAL:
            for seed in range(4):
                script, _ = drawn_script(fabric, seed)
                for k in range(len(script)):
                    self.assertIs(is_state(fabric, play(fabric, empty_state(fabric), script[:k])), True)

    def test_states_in_any_order(self):
        # Numbers need not ascend, and need not all be there.
        self.assertIs(is_state(PAIR, (9, (((5, 1), (2, 1), (8, 1)), ((0, 0),)))), True)
        self.assertIs(is_state(PAIR, (10 ** 3000, (((10 ** 3000 - 1, 1), (10 ** 2999, 1)), ()))), True)
        self.assertIs(is_state(EXAMPLE, (1, (((0, 1),), (), ()))), True)

    def test_one_packet_more_than_room(self):
        for fabric in (PAIR, DOUBLE, RING3, RING5, MIXED, CHAIN4):
            channels = fabric[0][1]
            for c, d in placements(fabric):
                for many in range(channels[c][2] + 3 if channels[c][2] < 9 else 3):
                    queue = tuple((k, d) for k in range(many))
                    queues = put_at(empty_state(fabric)[1], (c,), queue)
                    self.assertIs(is_state(fabric, (many, queues)), many <= channels[c][2])
        for many in (999, 1000, 1001):
            queue = tuple((k, 1) for k in range(many))
            self.assertIs(is_state(DOUBLE, (many, ((), queue, ()))), many <= 1000)

    def test_a_number_twice(self):
        self.assertIs(is_state(PAIR, (5, (((0, 1), (1, 1), (2, 1)), ((3, 0), (4, 0))))), True)
        for path in ((1, 0, 0, 0), (1, 0, 1, 0), (1, 0, 2, 0), (1, 1, 0, 0), (1, 1, 1, 0)):
            for number in range(5):
                state = put_at((5, (((0, 1), (1, 1), (2, 1)), ((3, 0), (4, 0)))), path, number)
                numbers = [told for told, _, _ in packets_in(state)]
                self.assertIs(is_state(PAIR, state), len(set(numbers)) == 5)

    def test_numbers_as_great_as_the_count_or_below_0(self):
        for number in range(-2, 9):
            state = (5, (((number, 1),), ()))
            self.assertIs(is_state(PAIR, state), 0 <= number < 5, number)
        self.assertIs(is_state(PAIR, (0, (((0, 1),), ()))), False)
        self.assertIs(is_state(PAIR, (1, (((0, 1),), ((1, 0),)))), False)
        for count in (-1, -2, -10 ** 3000):
            self.assertIs(is_state(PAIR, (count, ((), ()))), False)
        for count in (0, 1, 10 ** 3000):
            self.assertIs(is_state(PAIR, (count, ((), ()))), True)

    def test_goals(self):
        for fabric in SEVERAL[:12]:
            n, channels = fabric[0]
            right = placements(fabric)
            for c in range(len(channels)):
                for d in list(range(-2, n + 3)) + [10 ** 3000]:
                    state = (1, put_at(empty_state(fabric)[1], (c,), ((0, d),)))
                    self.assertIs(is_state(fabric, state), (c, d) in right, (c, d))

    def test_a_packet_that_is_not_first(self):
        state = (3, (((0, 1), (1, 1), (2, 1)), ()))
        self.assertIs(is_state(PAIR, state), True)
        for k in range(3):
            for wrong in ((k, 0), (k, 2), (k, -1), (3, 1), (-1, 1), (k,), (k, 1, 1), (k, True), (None, 1), k):
                self.assertIs(is_state(PAIR, put_at(state, (1, 0, k), wrong)), False)

    def test_bools_are_no_integers(self):
        self.assertIs(is_state(PAIR, (2, (((1, 1),), ((0, 0),)))), True)
        for state in (
            (True, ((), ())), (False, ((), ())), (2, (((True, 1),), ())), (2, (((False, 1),), ())), (2, (((1, True),), ())),
            (2, ((), ((0, False),))), (True, (((0, 1),), ())),
        ):
            self.assertIs(is_state(PAIR, state), False)

    def test_other_lengths(self):
        for value in ((), (0,), (0, ((), ()), ()), ((0, ((), ())),), ((), ()), (0, (), ())):
            self.assertIs(is_state(PAIR, value), False)
        for fabric in SEVERAL:
            count, queues = drawn_script(fabric, 1)[1].state()
            self.assertIs(is_state(fabric, (count, queues)), True)
            self.assertIs(is_state(fabric, (count, queues + ((),))), False)
            self.assertIs(is_state(fabric, (count, ((),) + queues)), False)
            self.assertIs(is_state(fabric, (count, queues[:-1])), False)
            self.assertIs(is_state(fabric, (count, queues[1:])), False)
            self.assertIs(is_state(fabric, (count, ())), False)

    def test_other_kinds_in_each_place(self):
        for fabric, state in ((PAIR, (7, (((6, 1), (3, 1)), ((5, 0),)))), (MIXED, (2, ((), (), ((1, 3),), ((0, 1),), (), ())))):
            self.assertIs(is_state(fabric, state), True)
            for path in paths_of(state):
                for wrong in WRONG_KINDS + WRONG_INTEGERS + ((7,), (0, 1, 1), 7777):
                    if path == (0,) and wrong in (7777, 10 ** 3000):
                        self.assertIs(is_state(fabric, put_at(state, path, wrong)), True)
                    else:
                        self.assertIs(is_state(fabric, put_at(state, path, wrong)), False, (path, str(wrong)[:20]))

    def test_any_values(self):
        for fabric in SEVERAL:
            for value in WRONG_KINDS + WRONG_INTEGERS + (0, "ab", ("ab", "cd"), (0, "ab"), (0, ("a", "b"))):
                self.assertIs(is_state(fabric, value), False)
            for levels in (1, 2, 3, 4, 78, 79, 80):
                self.assertIs(is_state(fabric, deep(levels)), False)
                self.assertIs(is_state(fabric, (5, deep(levels, (None,)))), False)
                queues = (deep(levels, (0,)),) * len(fabric[0][1])
                self.assertIs(is_state(fabric, (5, queues)), False)

    def test_the_fullest_state(self):
        network = (64, tuple((u, (u + 1) % 64, 1000) for u in range(64)))
        fabric = (network, table_of(64, {(u, (u + 1) % 64): (u,) for u in range(64)}))
        queues = tuple(tuple((1000 * u + k, (u + 1) % 64) for k in range(1000)) for u in range(64))
        self.assertIs(is_state(fabric, (64000, queues)), True)
        self.assertIs(is_state(fabric, (63999, queues)), False)
        self.assertIs(is_state(fabric, (64000, put_at(queues, (63, 999), (0, 0)))), False)


class StepFormTest(unittest.TestCase):
    def test_steps(self):
        for step in (
            ("put", 0, 1, 2), ("put", 0, 0, 0), ("go", 0, 0), ("go", 3, 5), ("out", 0), ("out", 7),
            ("put", 10 ** 3000, 10 ** 3000, 10 ** 3000), ("go", 10 ** 3000, 0), ("out", 10 ** 3000),
        ):
            self.assertIs(is_step(step), True)
        for fabric in SEVERAL:
            for step in possible_steps(fabric, drawn_script(fabric, 2)[1].state()):
                self.assertIs(is_step(step), True)

    def test_other_words(self):
        for word in ("", "Put", "put ", "PUT", "take", "open", "switch", "pu", "outt", "0"):
            for many in range(5):
                self.assertIs(is_step((word,) + (0,) * many), False)

    def test_other_lengths(self):
        for word, length in (("put", 3), ("go", 2), ("out", 1)):
            for many in range(6):
                self.assertIs(is_step((word,) + (1,) * many), many == length)
                self.assertIs(is_step((1,) * many + (word,)), False)

    def test_other_numbers(self):
        for step in (("put", 0, 1, 2), ("go", 3, 4), ("out", 5)):
            for k in range(1, len(step)):
                for wrong in WRONG_KINDS + (-1, -2, -10 ** 3000, (), (0,)):
                    self.assertIs(is_step(put_at(step, (k,), wrong)), False)

    def test_other_kinds_of_words(self):
        for wrong in (None, True, False, 0, 1, (), ("put",), deep(78), deep(79)):
            for many in range(4):
                self.assertIs(is_step((wrong,) + (0,) * many), False)

    def test_any_values(self):
        for value in WRONG_KINDS + WRONG_INTEGERS + ("put", "out0", ("put",), ("out", "0"), (("out", 0),), ("out", (0,))):
            self.assertIs(is_step(value), False)
        for levels in (1, 2, 3, 4, 79, 80):
            self.assertIs(is_step(deep(levels)), False)
            self.assertIs(is_step(deep(levels, ("out", 0))), levels == 1)


class ReadingTest(unittest.TestCase):
    STATE = (9, (((4, 1), (7, 1)), ((2, 0),)))

    def test_first_of(self):
        self.assertEqual(first_of(self.STATE, 0), (4, 1))
        self.assertEqual(first_of(self.STATE, 1), (2, 0))
        self.assertIsNone(first_of(empty_state(PAIR), 0))
        self.assertIsNone(first_of((3, (((2, 1),), ())), 1))
        for fabric in SEVERAL:
            for state in states_of(fabric):
                for c, queue in enumerate(state[1]):
                    self.assertEqual(first_of(state, c), queue[0] if queue else None)

    def test_is_full(self):
        for many in range(4):
            state = (9, (tuple((k, 1) for k in range(many)), ((8, 0),)))
            self.assertIs(is_full(PAIR, state, 0), many == 3)
            self.assertIs(is_full(PAIR, state, 1), False)
        self.assertIs(is_full(RING3, (1, (((0, 1),), (), ())), 0), True)
        self.assertIs(is_full(RING3, (1, (((0, 1),), (), ())), 1), False)
        for many in (998, 999, 1000):
            self.assertIs(is_full(DOUBLE, (1000, ((), tuple((k, 1) for k in range(many)), ())), 1), many == 1000)

    def test_packets_in(self):
        self.assertEqual(packets_in(self.STATE), [(2, 0, 1), (4, 1, 0), (7, 1, 0)])
        self.assertEqual(packets_in(empty_state(PAIR)), [])
        for fabric in SEVERAL:
            for state in states_of(fabric):
                told = [packet + (c,) for c, queue in enumerate(state[1]) for packet in queue]
                self.assertEqual(packets_in(state), sorted(told))
                self.assertIsInstance(packets_in(state), list)


class PossibleTest(unittest.TestCase):
    # 0 -> 1 -> 2 -> 0 with two more channels 0 -> 2, and room for two in the channel 1.
    FABRIC = (
        (3, ((0, 1, 1), (1, 2, 2), (2, 0, 1), (0, 2, 1), (0, 2, 3))),
        table_of(3, {(0, 1): (0,), (0, 2): (0, 3), (1, 2): (1,), (1, 0): (1,), (2, 0): (2,)}),
    )

    def yes(self, state, *steps):
        for step in steps:
            self.assertIs(is_possible(self.FABRIC, state, step), True, step)

    def no(self, state, *steps):
        for step in steps:
            self.assertIs(is_possible(self.FABRIC, state, step), False, step)

    def test_put(self):
        state = (4, (((3, 2),), ((0, 0),), (), (), ()))
        self.assertIs(is_state(self.FABRIC, state), True)
        # 0 is full, 1 has room for one more; 2 and 4 are no options there; 1 to 1 has none.
        self.no(state, ("put", 0, 1, 0), ("put", 0, 2, 0), ("put", 0, 2, 4), ("put", 0, 1, 3), ("put", 0, 2, 2))
        self.no(state, ("put", 1, 1, 1), ("put", 2, 2, 2), ("put", 0, 1, 1), ("put", 1, 0, 2), ("put", 2, 1, 2))
        self.yes(state, ("put", 0, 2, 3), ("put", 1, 2, 1), ("put", 1, 0, 1), ("put", 2, 0, 2))
        self.yes(empty_state(self.FABRIC), ("put", 0, 1, 0), ("put", 0, 2, 0))
        full = (4, ((), ((0, 0), (1, 2)), (), (), ()))
        self.no(full, ("put", 1, 2, 1), ("put", 1, 0, 1))

    def test_go(self):
        state = (4, (((3, 2),), ((0, 0), (1, 2)), (), (), ()))
        # 1 is full; its first packet is for 0, and goes to 2; 2 is empty.
        self.no(state, ("go", 0, 1), ("go", 1, 0), ("go", 1, 1), ("go", 1, 3), ("go", 2, 0), ("go", 3, 2))
        self.yes(state, ("go", 1, 2))
        state = (4, (((3, 2),), ((0, 0),), ((1, 0),), (), ()))
        self.yes(state, ("go", 0, 1))
        # Now 2 is full, and its packet is at home.
        self.no(state, ("go", 1, 2), ("go", 2, 0), ("go", 2, 3))
        # The second packet in 1 would have an option, the first one is at home.
        self.no((4, ((), ((1, 2), (0, 0)), (), (), ())), ("go", 1, 2))
        # For 1 the channel 0 is home.
        self.no((4, (((0, 1),), (), (), (), ())), ("go", 0, 1))

    def test_out(self):
        state = (4, (((3, 1),), ((0, 2), (1, 0)), (), (), ()))
        self.yes(state, ("out", 0), ("out", 1))
        self.no(state, ("out", 2), ("out", 3), ("out", 4))
        # Only the first packet counts.
        self.no((4, (((3, 2),), ((1, 0), (0, 2)), (), (), ())), ("out", 0), ("out", 1))

    def test_numbers_that_are_no_nodes_or_channels(self):
        state = (4, (((3, 2),), ((0, 0),), ((1, 0),), (), ()))
        great = (3, 4, 5, 6, 64, 400, 10 ** 3000)
        for number in great:
            self.no(state, ("put", number, 2, 3), ("put", 0, number, 3), ("put", number, number, 3), ("put", 3, 3, number))
            if number > 4:
                self.no(state, ("put", 0, 2, number), ("go", 0, number), ("go", number, 1), ("out", number))
                self.no(state, ("go", number, number), ("put", number, number, number))
        self.yes(state, ("put", 0, 2, 3), ("go", 0, 1), ("out", 2))
        # Numbers below 0 are no channels from behind.
        self.no(state, ("out", -3), ("go", -5, 1), ("go", 0, -4), ("put", 0, -1, 3), ("put", -3, 2, 3), ("put", 0, 2, -2))

    def test_each_step_with_small_numbers(self):
        for fabric in SEVERAL[:16]:
            n, channels = fabric[0]
            m = len(channels)
            steps = [("put", u, d, c) for u in range(n + 1) for d in range(n + 1) for c in range(m + 1)]
            steps += [("go", c, c2) for c in range(m + 1) for c2 in range(m + 1)]
            steps += [("out", c) for c in range(m + 2)]
            if len(steps) > 4000:
                steps = random.Random(5).sample(steps, 4000)
            for state in states_of(fabric):
                right = set(plain_possible(fabric, state))
                for step in steps:
                    self.assertIs(is_possible(fabric, state, step), step in right, (state, step))


class StepsTest(unittest.TestCase):
    def test_the_example(self):
        state = play(EXAMPLE, empty_state(EXAMPLE), (("put", 0, 2, 0),))
        self.assertEqual(state, (1, (((0, 2),), (), ())))
        self.assertEqual(possible_steps(EXAMPLE, state), [("put", 1, 2, 1), ("go", 0, 1)])

    def test_the_order(self):
        state = (9, (((0, 3),), ((3, 3),), ((4, 0),), ((1, 1), (2, 3)), (), ()))
        self.assertIs(is_state(MIXED, state), True)
        self.assertEqual(possible_steps(MIXED, state), [
            ("put", 0, 1, 3), ("put", 0, 1, 5), ("put", 0, 2, 1), ("put", 0, 3, 1), ("put", 0, 3, 3), ("put", 0, 3, 5),
            ("put", 1, 0, 2), ("put", 1, 3, 2), ("put", 3, 0, 4), ("put", 3, 1, 4), ("put", 3, 2, 4), ("go", 2, 4),
            ("out", 0), ("out", 3),
        ])

    def test_just_the_possible_ones_in_order(self):
        for fabric in SEVERAL:
            for state in states_of(fabric, range(5)):
                self.assertEqual(possible_steps(fabric, state), plain_possible(fabric, state))

    def test_all_steps_of_the_greatest_fabric(self):
        fabric = greatest()
        steps = possible_steps(fabric, empty_state(fabric))
        self.assertEqual(len(steps), len(placements(fabric)))
        self.assertEqual(steps, sorted(steps))

    def test_after(self):
        for fabric in SEVERAL:
            for state in states_of(fabric):
                for step in possible_steps(fabric, state):
                    self.assertEqual(after(fabric, state, step), plain_after(fabric, state, step))

    def test_not_allowed(self):
        state = (1, (((0, 2),), (), ()))
        for step in (
            ("put", 0, 1, 0), ("put", 0, 2, 1), ("put", 2, 0, 2), ("go", 0, 2), ("go", 1, 2), ("go", 0, 9), ("go", 9, 0),
            ("out", 0), ("out", 1), ("out", 9), ("put", 9, 9, 9),
        ):
            with self.assertRaises(NotAllowed) as caught:
                after(EXAMPLE, state, step)
            self.assertIsInstance(caught.exception, FabricError)
        for fabric in SEVERAL[:8]:
            for state in states_of(fabric):
                right = plain_possible(fabric, state)
                for c, c2 in itertools.product(range(len(fabric[0][1])), repeat=2):
                    for step in (("go", c, c2), ("out", c)):
                        if step not in right:
                            self.assertRaises(NotAllowed, after, fabric, state, step)

    def test_queues(self):
        # Three packets overtake none: the first one goes behind the one that is there.
        fabric = ((3, ((0, 1, 3), (1, 2, 3))), table_of(3, {(0, 2): (0,), (1, 2): (1,)}))
        state = play(fabric, empty_state(fabric), (("put", 1, 2, 1), ("put", 0, 2, 0), ("put", 0, 2, 0), ("go", 0, 1)))
        self.assertEqual(state, (3, (((2, 2),), ((0, 2), (1, 2)))))
        self.assertEqual(after(fabric, state, ("go", 0, 1)), (3, ((), ((0, 2), (1, 2), (2, 2)))))
        self.assertEqual(after(fabric, state, ("out", 1)), (3, (((2, 2),), ((1, 2),))))
        self.assertEqual(after(fabric, state, ("put", 0, 2, 0)), (4, (((2, 2), (3, 2)), ((0, 2), (1, 2)))))


class PlayTest(unittest.TestCase):
    def fails_at(self, fabric, state, script, k):
        with self.assertRaises(NotPossible) as caught:
            play(fabric, state, script)
        self.assertEqual(caught.exception.number, k)
        self.assertIs(type(caught.exception.number), int)
        self.assertIsInstance(caught.exception, FabricError)

    def test_empty_script(self):
        for fabric in SEVERAL:
            for state in states_of(fabric):
                self.assertEqual(play(fabric, state, ()), state)

    def test_drawn_scripts(self):
        for fabric in SEVERAL:
            for seed in range(6):
                script, world = drawn_script(fabric, seed)
                self.assertEqual(play(fabric, empty_state(fabric), script), world.state())
                half = play(fabric, empty_state(fabric), script[:len(script) // 2])
                self.assertEqual(play(fabric, half, script[len(script) // 2:]), world.state())

    def test_step_by_step(self):
        for fabric in SEVERAL:
            script, _ = drawn_script(fabric, 7)
            state = empty_state(fabric)
            for k, step in enumerate(script):
                state = after(fabric, state, step)
                self.assertEqual(state, play(fabric, empty_state(fabric), script[:k + 1]))

    def test_the_first_step_that_is_not_possible(self):
        wrong = (("out", 10 ** 3000), ("put", 0, 0, 0), ("go", 0, 0))
        for fabric in SEVERAL:
            script, _ = drawn_script(fabric, 3)
            for step in wrong:
                for k in (0, 1, len(script) // 2, len(script) - 1, len(script)):
                    if 0 <= k <= len(script):
                        self.fails_at(fabric, empty_state(fabric), script[:k] + (step,) + script[k:], k)
                        # A second one behind it does not count.
                        self.fails_at(fabric, empty_state(fabric), script[:k] + (step,) + script[k:] + wrong, k)

    def test_first_and_last_wrong(self):
        script = (("put", 0, 2, 0), ("go", 0, 1), ("put", 0, 1, 0), ("out", 1), ("out", 0))
        self.assertEqual(play(EXAMPLE, empty_state(EXAMPLE), script), (2, ((), (), ())))
        self.fails_at(EXAMPLE, empty_state(EXAMPLE), (("out", 0),) + script, 0)
        self.fails_at(EXAMPLE, empty_state(EXAMPLE), script + (("out", 0),), 5)
        self.fails_at(EXAMPLE, empty_state(EXAMPLE), script[:1] + script, 1)
        self.fails_at(EXAMPLE, empty_state(EXAMPLE), script[1:], 0)
        self.fails_at(EXAMPLE, empty_state(EXAMPLE), script[:2] + script[3:], 3)

    def test_not_from_the_empty_state(self):
        state = (5, (((4, 2),), (), ()))
        self.assertEqual(play(EXAMPLE, state, (("go", 0, 1), ("put", 0, 1, 0))), (6, (((5, 1),), ((4, 2),), ())))
        self.fails_at(EXAMPLE, state, (("go", 0, 1), ("put", 0, 1, 0), ("go", 0, 1)), 2)

    def test_long_scripts(self):
        script = (("put", 0, 1, 1),) * 1000
        full = play(DOUBLE, empty_state(DOUBLE), script)
        self.assertEqual(full, (1000, ((), tuple((k, 1) for k in range(1000)), ())))
        self.fails_at(DOUBLE, empty_state(DOUBLE), script + (("put", 0, 1, 1),), 1000)
        self.assertEqual(play(DOUBLE, full, (("out", 1),) * 1000), (1000, ((), (), ())))
        self.fails_at(DOUBLE, full, (("out", 1),) * 1001, 1000)


class KeptPacketsTest(unittest.TestCase):
    def test_neither_lost_nor_made(self):
        left = 0
        for fabric in SEVERAL:
            for seed in range(6):
                script, world = drawn_script(fabric, seed, 60)
                state = play(fabric, empty_state(fabric), script)
                words = collections.Counter(step[0] for step in script)
                self.assertEqual(words["put"], len(packets_in(state)) + words["out"])
                self.assertEqual(words["put"], state[0])
                inside = [number for number, _, _ in packets_in(state)]
                gone = [number for _, (number, _) in world.gone]
                self.assertEqual(sorted(inside + gone), list(range(state[0])))
                for c, (_, goal) in world.gone:
                    self.assertIs(is_home(fabric, c, goal), True)
                left += len(gone)
        self.assertGreater(left, 200)

    def test_at_any_moment(self):
        for fabric in (EXAMPLE, RING3, TORUS, MESH):
            script, _ = drawn_script(fabric, 4, 60)
            state = empty_state(fabric)
            for k, step in enumerate(script):
                before = {number: goal for number, goal, _ in packets_in(state)}
                state = after(fabric, state, step)
                now = {number: goal for number, goal, _ in packets_in(state)}
                words = [word for word, *_ in script[:k + 1]]
                self.assertEqual(words.count("put"), len(now) + words.count("out"))
                if step[0] == "put":
                    self.assertEqual(now, {**before, max(now): step[2]})
                elif step[0] == "go":
                    self.assertEqual(now, before)
                else:
                    self.assertEqual(before, {**now, **{k: fabric[0][1][step[1]][1] for k in set(before) - set(now)}})
                    self.assertEqual(len(before), len(now) + 1)


class PutsTest(unittest.TestCase):
    def check(self, fabric, queues):
        script = puts(fabric, queues)
        self.assertIsInstance(script, tuple)
        channels = fabric[0][1]
        self.assertEqual(script, tuple(("put", channels[c][0], d, c) for c in range(len(channels)) for d in queues[c]))
        count, packets = play(fabric, empty_state(fabric), script)
        self.assertEqual(tuple(tuple(goal for _, goal in queue) for queue in packets), queues)
        self.assertEqual([number for queue in packets for number, _ in queue], list(range(count)))

    def test_no_packets(self):
        for fabric in SEVERAL:
            self.assertEqual(puts(fabric, empty_state(fabric)[1]), ())

    def test_one_channel(self):
        self.assertEqual(puts(EXAMPLE, ((2,), (), ())), (("put", 0, 2, 0),))
        for fabric in SEVERAL:
            right = placements(fabric)
            for c, channel in enumerate(fabric[0][1]):
                goals = [d for other, d in right if other == c]
                for seed in range(3 if goals else 0):
                    rng = random.Random(seed)
                    many = rng.randint(1, channel[2])
                    told = tuple(rng.choice(goals) for _ in range(many))
                    self.check(fabric, put_at(empty_state(fabric)[1], (c,), told))

    def test_all_channels_at_once(self):
        for fabric in SEVERAL:
            right = placements(fabric)
            for seed in range(3):
                rng = random.Random(seed)
                queues = []
                for c, (_, _, room) in enumerate(fabric[0][1]):
                    goals = [d for other, d in right if other == c]
                    many = 0 if not goals else room if seed == 0 else rng.randint(0, room)
                    queues.append(tuple(rng.choice(goals) for _ in range(many)))
                self.check(fabric, tuple(queues))

    def test_the_greatest_fabric(self):
        fabric = greatest()
        goals = {}
        for c, d in placements(fabric):
            goals.setdefault(c, []).append(d)
        self.check(fabric, tuple(tuple(goals[c][:room]) for c, (_, _, room) in enumerate(fabric[0][1])))

    def test_a_mesh_with_rooms(self):
        fabric = (network_of(mesh((3, 3)), 2, 4), dimension_order((3, 3), 2))
        goals = {}
        for c, d in placements(fabric):
            goals.setdefault(c, []).append(d)
        self.check(fabric, tuple(tuple(goals[c][k % len(goals[c])] for k in range(4)) for c in range(48)))


if __name__ == "__main__":
    unittest.main()
