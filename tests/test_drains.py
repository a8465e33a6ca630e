import random
import unittest

from samples import CHAIN4, DOUBLE, MIXED, NO_OPTIONS, PAIR, RING3, put_at, ring
from verdict_samples import ESCAPE, FULL_FABRICS, PLANE, SMALL_CASES
from worlds import EXAMPLE, TORUS, packed_state, plain_after, plain_possible, small_fabric, states_of

from calmfabric.blocked import blocked, is_calm, is_dead, stuck_packets
from calmfabric.cases import case_of
from calmfabric.drains import drain, knot_script
from calmfabric.frames import mesh, network_of
from calmfabric.known_ranks import dateline_ranks, dimension_ranks
from calmfabric.networks import is_home
from calmfabric.packets import empty_state, is_state, play
from calmfabric.routings import dimension_order
from calmfabric.verdicts import greatest_knot, least_ranks, tight_knot

SMALL = tuple(small_fabric(seed) for seed in range(70))


def rooms(fabric, seed):
    """The fabric with other rooms."""
    (n, channels), table = fabric
    rng = random.Random(seed)
    return ((n, tuple((u, v, rng.randint(1, 5)) for u, v, _ in channels)), table)


def plain_drain(fabric, state, ranks):
    """The steps of [6.9], each looked for among all channels that are not empty."""
    channels, table = fabric[0][1], fabric[1]
    steps = []
    while any(state[1]):
        least = min(ranks[c] for c, queue in enumerate(state[1]) if queue)
        c = [c for c, queue in enumerate(state[1]) if queue and ranks[c] == least][0]
        goal = state[1][c][0][1]
        if channels[c][1] == goal:
            step = ("out", c)
        else:
            step = ("go", c, [option for option in table[channels[c][1]][goal] if ranks[option] < ranks[c]][0])
        assert step in plain_possible(fabric, state)
        steps.append(step)
        state = plain_after(fabric, state, step)
    return tuple(steps)


class KnotScriptTest(unittest.TestCase):
    def test_in_order_and_as_often_as_there_is_room(self):
        network = (3, ((0, 1, 2), (1, 2, 1), (2, 0, 3)))
        script = (("put", 0, 2, 0),) * 2 + (("put", 1, 0, 1),) + (("put", 2, 1, 2),) * 3
        self.assertEqual(knot_script(network, ((0, 2), (1, 0), (2, 1))), script)
        script = (("put", 0, 2, 0), ("put", 1, 0, 1), ("put", 2, 1, 2))
        self.assertEqual(knot_script(RING3[0], ((0, 2), (1, 0), (2, 1))), script)

    def check(self, fabric, knot):
        channels = fabric[0][1]
        script = knot_script(fabric[0], knot)
        self.assertIsInstance(script, tuple)
        self.assertEqual(script, tuple(("put", channels[c][0], d, c) for c, d in knot for _ in range(channels[c][2])))
        state = play(fabric, empty_state(fabric), script)
        goals = dict(knot)
        for c, queue in enumerate(state[1]):
            # Just these channels are full, and nothing is in the others.
            self.assertEqual([d for _, d in queue], [goals[c]] * channels[c][2] if c in goals else [])
        self.assertEqual(stuck_packets(fabric, state), list(range(state[0])))
        self.assertEqual(blocked(fabric, state), tuple(c for c, _ in knot))
        self.assertIs(is_dead(fabric, state), True)
        return state

    def test_greatest_and_tight_knots(self):
        seen = 0
        for fabric in SMALL + tuple(rooms(fabric, 3) for fabric in SMALL) + FULL_FABRICS:
            for knot in (greatest_knot(case_of(fabric)), tight_knot(case_of(fabric))):
                if knot is not None:
                    state = self.check(fabric, knot)
                    seen += 1
                    if len(state[1]) < 9:
                        self.stay_stuck(fabric, state)
        self.assertGreater(seen, 60)

    def stay_stuck(self, fabric, state):
        """Whatever happens then, none of the packets moves."""
        rng = random.Random(1)
        queues = state[1]
        for _ in range(15):
            steps = plain_possible(fabric, state)
            if steps:
                state = plain_after(fabric, state, rng.choice(steps))
            for before, queue in zip(queues, state[1]):
                self.assertEqual(queue[:len(before)], before)

    def test_great_rooms(self):
        state = self.check(ring(3, 1000), ((0, 2), (1, 0), (2, 1)))
        self.assertEqual(state[0], 3000)


class DrainTest(unittest.TestCase):
    def check(self, fabric, state, ranks):
        script = drain(fabric, state, ranks)
        self.assertIsInstance(script, tuple)
        self.assertEqual(script, plain_drain(fabric, state, ranks))
        self.assertEqual(play(fabric, state, script), (state[0], ((),) * len(state[1])))
        most = sum(ranks[c] + 1 for c, queue in enumerate(state[1]) for _ in queue)
        self.assertLessEqual(len(script), most)
        return len(script)

    def test_the_empty_state(self):
        for fabric in (PAIR, NO_OPTIONS, CHAIN4, TORUS, PLANE):
            ranks = least_ranks(case_of(fabric))
            self.assertEqual(drain(fabric, empty_state(fabric), ranks), ())
            self.assertEqual(drain(fabric, (9, empty_state(fabric)[1]), ranks), ())

    def test_by_hand(self):
        # 0 -> 1 -> 2 -> 3, all to 3; the channel in front is emptied first.
        state = (5, (((4, 3),), ((0, 3),), ((2, 3),)))
        script = (("out", 2), ("go", 1, 2), ("out", 2), ("go", 0, 1), ("go", 1, 2), ("out", 2))
        self.assertEqual(drain(CHAIN4, state, (2, 1, 0)), script)
        # Of several channels with the least rank the first one.
        state = (4, (((2, 1), (0, 1)), ((3, 0),)))
        self.assertEqual(drain(PAIR, state, (0, 0)), (("out", 0), ("out", 0), ("out", 1)))
        self.assertEqual(drain(PAIR, state, (1, 0)), (("out", 1), ("out", 0), ("out", 0)))

    def test_the_first_option_of_lesser_rank(self):
        network = (4, ((0, 1, 1), (1, 2, 1), (1, 2, 1), (1, 2, 1), (2, 3, 1)))
        table = (((), (), (), (0,)), ((), (), (), (1, 2, 3)), ((), (), (), (4,)), ((), (), (), ()))
        fabric = (network, table)
        state = (1, (((0, 3),), (), (), (), ()))
        for ranks, option in (
            ((2, 1, 1, 1, 0), 1), ((3, 5, 1, 2, 0), 2), ((3, 5, 2, 1, 0), 2), ((3, 3, 4, 1, 0), 3), ((9, 8, 1, 1, 0), 1),
        ):
            self.assertEqual(drain(fabric, state, ranks), (("go", 0, option), ("go", option, 4), ("out", 4)))

    def test_with_the_least_ranks_and_with_greater_ones(self):
        drained, steps = 0, 0
        for fabric in SMALL + tuple(rooms(fabric, 8) for fabric in SMALL) + (MIXED, EXAMPLE, DOUBLE, CHAIN4, PAIR):
            least = least_ranks(case_of(fabric))
            if least is not None:
                great = tuple(rank * 10 ** 3000 for rank in least)
                for seed in range(3):
                    rng = random.Random(seed)
                    state = packed_state(fabric, seed)
                    steps += self.check(fabric, state, least)
                    self.check(fabric, state, tuple(3 * rank + 5 for rank in least))
                    self.check(fabric, state, tuple(3 * rank + rng.randint(0, 2) for rank in least))
                    self.check(fabric, state, great)
                    drained += 1
        self.assertTrue(drained > 100 and steps > 400, (drained, steps))

    def test_from_states_that_scripts_lead_to(self):
        for case in SMALL_CASES[:70]:
            fabric = case[:2]
            ranks = least_ranks(case)
            for state in states_of(fabric, range(4)) if ranks else ():
                self.assertIs(is_state(fabric, state), True)
                self.check(fabric, state, ranks)
                self.assertIs(is_calm(fabric, state), True)

    def test_known_ranks(self):
        network = network_of(mesh((4, 4)), 1, 3)
        fabric = (network, dimension_order((4, 4), 1))
        for seed in range(2):
            self.check(fabric, packed_state(fabric, seed), dimension_ranks((4, 4), 1))
            self.check(TORUS, packed_state(TORUS, seed), dateline_ranks((3, 3), 2))
        self.check(ESCAPE, packed_state(ESCAPE, 3), least_ranks(case_of(ESCAPE)))

    def test_many_packets(self):
        state = play(PAIR, empty_state(PAIR), (("put", 0, 1, 0),) * 3)
        self.assertEqual(drain(PAIR, state, (0, 0)), (("out", 0),) * 3)
        full = (1000, put_at(empty_state(DOUBLE)[1], (1,), tuple((k, 1) for k in range(1000))))
        self.assertEqual(drain(DOUBLE, full, (0, 0, 0)), (("out", 1),) * 1000)

    def test_packets_that_are_at_home_leave_there(self):
        for seed in range(20):
            fabric = SMALL[seed]
            ranks = least_ranks(case_of(fabric))
            if ranks is not None:
                state = packed_state(fabric, seed)
                now = state
                for step in drain(fabric, state, ranks):
                    goal = now[1][step[1]][0][1]
                    self.assertIs(is_home(fabric, step[1], goal), step[0] == "out")
                    now = plain_after(fabric, now, step)


if __name__ == "__main__":
    unittest.main()
