import random
import unittest

from samples import CHAIN4, DOUBLE, MIXED, NO_OPTIONS, PAIR, RING3, greatest, put_at, ring, table_of
from verdict_samples import ESCAPE, PLANE
from worlds import EXAMPLE, MESH, TORUS, packed_state, plain_play, small_fabric, states_of, world_of

from calmfabric.cases import case_of
from calmfabric.drains import knot_script
from calmfabric.errors import FabricError, NoAnswer
from calmfabric.frames import network_of
from calmfabric.frames import ring as ring_frame
from calmfabric.packets import empty_state, is_full, play
from calmfabric.rounds import enough, play_round, settle
from calmfabric.routings import shortest
from calmfabric.verdicts import greatest_knot, least_ranks, tight_knot
from calmfabric.ways import arrives, greatest_lengths

RING4 = (network_of(ring_frame(4), 1, 2), shortest(network_of(ring_frame(4), 1, 2)))
# For 2 the packets go round for ever in 0 -> 1 -> 0; for 1 and 0 they come home.
ASTRAY = ((3, ((0, 1, 1), (1, 0, 1))), table_of(3, {(0, 1): (0,), (1, 0): (1,), (0, 2): (0,), (1, 2): (1,)}))
SMALL = tuple(small_fabric(seed) for seed in range(100))
SEVERAL = SMALL + (RING3, RING4, PAIR, DOUBLE, CHAIN4, MIXED, EXAMPLE, MESH, TORUS, ASTRAY, NO_OPTIONS, ring(4, 2))


def orders_of(fabric):
    many = len(fabric[0][1])
    rng = random.Random(many)
    return [tuple(range(many)), tuple(range(many))[::-1]] + [tuple(rng.sample(range(many), many)) for _ in range(2)]


def plain_round(fabric, state, order):
    """A round by the words of [7.4], channel by channel."""
    channels, table = fabric[0][1], fabric[1]
    world = world_of(fabric, state)
    moves = []
    for c in order:
        if world.channels[c]:
            goal = world.channels[c][0][1]
            target = channels[c][1]
            if target == goal:
                moves.append(("out", c))
                world.do(moves[-1])
            else:
                for option in table[target][goal]:
                    if len(world.channels[option]) < channels[option][2]:
                        moves.append(("go", c, option))
                        world.do(moves[-1])
                        break
    return world.state(), moves


def plain_settle(fabric, state, order, limit):
    """How rounds end by the words of [7.6], from the list of all states."""
    states = [state]
    for k in range(limit + 1):
        if not any(states[k][1]):
            return ("empty", k)
        for j in range(k):
            if states[j] == states[k]:
                return ("again", j, k)
        behind, moves = plain_round(fabric, states[k], order)
        if not moves:
            return ("still", k)
        states.append(behind)
    return ("more",)


class RoundTest(unittest.TestCase):
    def test_against_rounds_played_channel_by_channel(self):
        full, moved = 0, 0
        for fabric in SEVERAL:
            for state in [packed_state(fabric, seed) for seed in range(3)] + states_of(fabric, range(2)):
                for order in orders_of(fabric):
                    result = play_round(fabric, state, order)
                    self.assertIsInstance(result, tuple)
                    behind, moves = result
                    self.assertIsInstance(moves, list)
                    self.assertEqual((behind, moves), plain_round(fabric, state, order))
                    # A round is a script without put.
                    self.assertEqual(play(fabric, state, tuple(moves)), behind)
                    self.assertEqual(plain_play(fabric, state, tuple(moves)), behind)
                    self.assertEqual(behind[0], state[0])
                    moved += len(moves)
                    full += any(is_full(fabric, state, c) for c in range(len(state[1])))
        self.assertTrue(moved > 1000 and full > 500, (moved, full))

    def test_packets_that_move_more_than_once(self):
        state = (1, (((0, 3),), (), ()))
        self.assertEqual(play_round(CHAIN4, state, (0, 1, 2)), ((1, ((), (), ())), [("go", 0, 1), ("go", 1, 2), ("out", 2)]))
        self.assertEqual(play_round(CHAIN4, state, (2, 1, 0)), ((1, ((), ((0, 3),), ())), [("go", 0, 1)]))
        self.assertEqual(play_round(CHAIN4, state, (1, 0, 2)), ((1, ((), ((0, 3),), ())), [("go", 0, 1)]))
        self.assertEqual(play_round(CHAIN4, state, (0, 2, 1)), ((1, ((), (), ((0, 3),))), [("go", 0, 1), ("go", 1, 2)]))
        full = (3, (((0, 3),), ((1, 3),), ((2, 3),)))
        self.assertEqual(play_round(CHAIN4, full, (0, 1, 2)), ((3, (((0, 3),), ((1, 3),), ())), [("out", 2)]))
        self.assertEqual(
            play_round(CHAIN4, full, (2, 1, 0)), ((3, ((), ((0, 3),), ((1, 3),))), [("out", 2), ("go", 1, 2), ("go", 0, 1)])
        )

    def test_one_packet_of_a_channel_in_each_turn(self):
        state = (3, (((2, 1), (0, 1), (1, 1)), ()))
        self.assertEqual(play_round(PAIR, state, (0, 1)), ((3, (((0, 1), (1, 1)), ())), [("out", 0)]))

    def test_the_first_option_that_is_not_full(self):
        # The node 1 has the options 1, 2 and 3 for 2.
        network = (3, ((0, 1, 1), (1, 2, 1), (1, 2, 2), (1, 2, 1)))
        fabric = (network, table_of(3, {(0, 2): (0,), (1, 2): (1, 2, 3)}))
        for queues, option in (
            ((), 1), ((1,), 2), ((1, 2), 2), ((1, 2, 2), 3), ((2, 2), 1), ((1, 3), 2), ((2, 2, 3), 1),
            ((1, 2, 2, 3), None),
        ):
            told = [((0, 2),), (), (), ()]
            for k, c in enumerate(queues):
                told[c] += ((k + 1, 2),)
            state = (9, tuple(told))
            moves = play_round(fabric, state, (0, 1, 2, 3))[1]
            self.assertEqual(moves[0], ("go", 0, option) if option else ("out", 1), queues)

    def test_no_packets_no_moves(self):
        for fabric in SEVERAL:
            for order in orders_of(fabric):
                self.assertEqual(play_round(fabric, empty_state(fabric), order), (empty_state(fabric), []))
                self.assertEqual(play_round(fabric, (5, empty_state(fabric)[1]), order), ((5, empty_state(fabric)[1]), []))

    def test_the_list_is_new_each_time(self):
        state = (1, (((0, 3),), (), ()))
        play_round(CHAIN4, state, (0, 1, 2))[1].append("more")
        self.assertEqual(len(play_round(CHAIN4, state, (0, 1, 2))[1]), 3)


class EnoughTest(unittest.TestCase):
    def test_the_sum(self):
        seen = 0
        for fabric in SEVERAL:
            if arrives(fabric):
                for seed in range(4):
                    state = packed_state(fabric, seed)
                    right = 0
                    for c, queue in enumerate(state[1]):
                        for _, d in queue:
                            right += greatest_lengths(fabric, d)[c]
                    self.assertEqual(enough(fabric, state), right)
                    seen += right
        self.assertGreater(seen, 300)

    def test_by_hand(self):
        self.assertEqual(enough(CHAIN4, (9, (((0, 3),), ((2, 3),), ((1, 3),)))), 6)
        self.assertEqual(enough(PAIR, (9, (((0, 1), (1, 1)), ()))), 2)
        self.assertEqual(enough(RING4, (3, ((), ((0, 0),), (), (), (), ((1, 0), (2, 0)), (), ()))), 1 + 2 * 2)

    def test_no_packets(self):
        for fabric in SEVERAL:
            if arrives(fabric):
                self.assertEqual(enough(fabric, empty_state(fabric)), 0)

    def test_no_answer(self):
        some = 0
        for fabric in SEVERAL + (greatest(),):
            if not arrives(fabric):
                for state in (empty_state(fabric), packed_state(fabric, 1)):
                    with self.assertRaises(NoAnswer) as caught:
                        enough(fabric, state)
                    self.assertIsInstance(caught.exception, FabricError)
                some += 1
        self.assertGreater(some, 10)

    def test_so_many_rounds_bring_all_home(self):
        played = 0
        for fabric in SEVERAL + (ESCAPE, PLANE):
            if arrives(fabric) and least_ranks(case_of(fabric)) is not None:
                for seed in range(3):
                    state = packed_state(fabric, seed)
                    for order in orders_of(fabric):
                        now = state
                        for k in range(enough(fabric, state)):
                            if not any(now[1]):
                                break
                            now, moves = play_round(fabric, now, order)
                            # With ranks each round of a state with packets has a move.
                            self.assertNotEqual(moves, [])
                        self.assertFalse(any(now[1]))
                        word, rounds = settle(fabric, state, order, enough(fabric, state))
                        self.assertEqual(word, "empty")
                        self.assertLessEqual(rounds, enough(fabric, state))
                        played += 1
        self.assertGreater(played, 200)

    def test_each_round_has_a_move_with_ranks(self):
        for fabric in SEVERAL:
            if least_ranks(case_of(fabric)) is not None:
                rng = random.Random(1)
                now = packed_state(fabric, 2)
                for _ in range(12):
                    if any(now[1]):
                        many = len(now[1])
                        now, moves = play_round(fabric, now, tuple(rng.sample(range(many), many)))
                        self.assertNotEqual(moves, [])

    def test_behind_the_script_of_a_knot_nothing_moves(self):
        seen = 0
        for fabric in SEVERAL:
            for knot in (greatest_knot(case_of(fabric)), tight_knot(case_of(fabric))):
                if knot is not None:
                    state = play(fabric, empty_state(fabric), knot_script(fabric[0], knot))
                    for order in orders_of(fabric):
                        self.assertEqual(play_round(fabric, state, order), (state, []))
                        self.assertEqual(settle(fabric, state, order, 0), ("still", 0))
                    seen += 1
        self.assertGreater(seen, 30)


class SettleTest(unittest.TestCase):
    def check(self, fabric, state, order):
        """With several limits; returns what happens in the end, if it does within 40 rounds."""
        right = plain_settle(fabric, state, order, 40)
        self.assertEqual(settle(fabric, state, order, 40), right)
        if right != ("more",):
            k = right[-1]
            for limit in (k, k + 1, 1000):
                self.assertEqual(settle(fabric, state, order, limit), right)
            for limit in {0, k // 2, k - 1}:
                if 0 <= limit < k:
                    self.assertEqual(settle(fabric, state, order, limit), ("more",))
        return right

    def test_against_the_list_of_all_states(self):
        ends = {}
        for fabric in SEVERAL:
            for seed in range(4):
                state = packed_state(fabric, seed)
                for order in orders_of(fabric):
                    word, *numbers = self.check(fabric, state, order)
                    ends.setdefault(word, []).append(numbers)
        self.assertGreater(max(k for k, in ends["empty"]), 4)
        self.assertGreater(len([k for k, in ends["still"] if k == 0]), 10)
        self.assertGreater(len([k for k, in ends["still"] if k > 0]), 5)
        self.assertGreater(len(ends["again"]), 3)

    def test_empty(self):
        for limit in (0, 1, 7):
            self.assertEqual(settle(CHAIN4, (4, ((), (), ())), (0, 1, 2), limit), ("empty", 0))
        state = (1, (((0, 3),), (), ()))
        self.assertEqual(settle(CHAIN4, state, (0, 1, 2), 1), ("empty", 1))
        self.assertEqual(settle(CHAIN4, state, (0, 1, 2), 0), ("more",))
        self.assertEqual(settle(CHAIN4, state, (2, 1, 0), 3), ("empty", 3))
        self.assertEqual(settle(CHAIN4, state, (2, 1, 0), 2), ("more",))

    def test_still(self):
        jam = (3, (((0, 2),), ((1, 0),), ((2, 1),)))
        for limit in (0, 1, 5):
            self.assertEqual(settle(RING3, jam, (0, 1, 2), limit), ("still", 0))
        # The packet in channel 3 leaves first, then nothing moves any more.
        network = (4, RING3[0][1] + ((0, 3, 1),))
        fabric = (network, table_of(4, {
            (0, 1): (0,), (0, 2): (0,), (1, 2): (1,), (1, 0): (1,), (2, 0): (2,), (2, 1): (2,), (0, 3): (3,),
        }))
        state = (4, jam[1] + (((3, 3),),))
        self.assertEqual(settle(fabric, state, (0, 1, 2, 3), 1), ("still", 1))
        self.assertEqual(settle(fabric, state, (0, 1, 2, 3), 9), ("still", 1))
        self.assertEqual(settle(fabric, state, (0, 1, 2, 3), 0), ("more",))

    def test_again(self):
        state = (1, (((0, 2),), ()))
        # There and back in one round; or one channel behind the other, and then both.
        self.assertEqual(settle(ASTRAY, state, (0, 1), 1), ("again", 0, 1))
        self.assertEqual(settle(ASTRAY, state, (0, 1), 0), ("more",))
        self.assertEqual(settle(ASTRAY, state, (1, 0), 2), ("again", 1, 2))
        self.assertEqual(settle(ASTRAY, state, (1, 0), 1), ("more",))
        # Both channels are full, so nothing moves.
        self.assertEqual(settle(ASTRAY, (2, (((0, 2),), ((1, 2),))), (1, 0), 5), ("still", 0))
        # The numbers of the packets count: with two on the way the state is the same only when both are back.
        network = (5, tuple((u, (u + 1) % 4, 1) for u in range(4)))
        around = (network, table_of(5, {(u, 4): (u,) for u in range(4)}))
        for queues in ((((0, 4),), (), (), ()), (((0, 4),), (), ((1, 4),), ()), (((1, 4),), ((0, 4),), (), ())):
            for order in orders_of(around):
                self.assertEqual(self.check(around, (2, queues), order)[0], "again")

    def test_long_rounds(self):
        # Rings of 4, 5, 6 and 8 channels, in each of which a packet comes round in one round less.
        channels, cells, order = [], {}, []
        for size in (4, 5, 6, 8):
            first = len(channels)
            channels += [(first + k, first + (k + 1) % size, 1) for k in range(size)]
            cells.update({(first + k, 23): (first + k,) for k in range(size)})
            order += range(first + size - 1, first - 1, -1)
        fabric = ((24, tuple(channels)), table_of(24, cells))
        queues = tuple(((c, 23),) if c in (0, 4, 9, 15) else () for c in range(23))
        # The packet of the last channel goes on twice, for its turn comes again in the first one.
        right = plain_settle(fabric, (23, queues), tuple(order), 450)
        self.assertEqual((right[0], right[2] - right[1]), ("again", 3 * 4 * 5 * 7))
        self.assertEqual(settle(fabric, (23, queues), tuple(order), 10 ** 4), right)
        self.assertEqual(settle(fabric, (23, queues), tuple(order), right[2] - 1), ("more",))

    def test_the_state_may_come_from_a_script(self):
        state = play(EXAMPLE, empty_state(EXAMPLE), (("put", 0, 2, 0), ("put", 1, 2, 1)))
        self.assertEqual(settle(EXAMPLE, state, (0, 1, 2), 5), ("empty", 2))
        self.assertEqual(settle(EXAMPLE, put_at(state, (1, 1), ()), (0, 1, 2), 5), ("empty", 1))


if __name__ == "__main__":
    unittest.main()
