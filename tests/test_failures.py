import itertools
import random
import unittest

from samples import CHAIN4, DOUBLE, MIXED, NO_OPTIONS, PAIR, RING3, greatest, put_at, ring, table_of
from verdict_samples import plain_stages, twice
from worlds import EXAMPLE, MESH, TORUS, packed_state, small_fabric, states_of

from calmfabric.cases import case_of
from calmfabric.failures import after_failure, cut_off, least_break, least_cut
from calmfabric.frames import complete, network_of
from calmfabric.networks import is_fabric, served
from calmfabric.packets import empty_state, is_state
from calmfabric.routings import shortest, up_down
from calmfabric.tables import without_channels
from calmfabric.verdicts import greatest_knot

SMALL = (RING3, PAIR, EXAMPLE, CHAIN4, NO_OPTIONS, DOUBLE, MIXED) + tuple(small_fabric(seed) for seed in range(60))


def plain_without(fabric, failed):
    """The options that are left, thinned one by one."""
    network, table = fabric
    n, channels = network
    cells = {(u, d): [c for c in table[u][d] if c not in failed] for u in range(n) for d in range(n)}
    while True:
        ends = [(u, d, c) for (u, d),
            cell in cells.items() for c in cell if channels[c][1] != d and not cells[channels[c][1], d]]
        if not ends:
            return (network, table_of(n, cells))
        u, d, c = ends[-1]
        cells[u, d].remove(c)


def plain_after(fabric, state, failed):
    """What is left, by the words of [10.6]."""
    left = plain_without(fabric, failed)
    channels, table = left[0][1], left[1]
    lost, queues = [], []
    for c, queue in enumerate(state[1]):
        rest = []
        for number, d in queue:
            v = channels[c][1]
            if c in failed or v != d and table[v][d] == ():
                lost.append(number)
            else:
                rest.append((number, d))
        queues.append(tuple(rest))
    return (left, (state[0], tuple(queues)), tuple(sorted(lost)))


def plain_cut(fabric, failed):
    left = plain_without(fabric, failed)[1]
    n = fabric[0][0]
    return [(u, d) for u in range(n) for d in range(n) if fabric[1][u][d] and not left[u][d]]


def has_knot(fabric):
    return len(plain_stages(twice(fabric))) < len(fabric[0][1])


def least_of(fabric, k, test):
    """The first set of at most k channels, those with fewer channels first; all of them are tried one by one."""
    many = len(fabric[0][1])
    for size in range(k + 1):
        for some in itertools.combinations(range(many), size):
            if test(some):
                return some
    return None


class AfterFailureTest(unittest.TestCase):
    def test_drawn_states_and_channels(self):
        gone, gone_elsewhere, kept = 0, 0, 0
        for fabric in SMALL + (TORUS, MESH):
            many = len(fabric[0][1])
            for seed, state in enumerate([packed_state(fabric, seed) for seed in range(3)] + states_of(fabric,
                    range(2))):
                rng = random.Random(seed)
                for size in {0, 1, 2, many // 2, many}:
                    if size <= many:
                        failed = tuple(sorted(rng.sample(range(many), size)))
                        result = after_failure(fabric, state, failed)
                        self.assertEqual(result, plain_after(fabric, state, failed))
                        left, rest, lost = result
                        self.assertIs(is_fabric(left), True)
                        self.assertIs(is_state(left, rest), True)
                        self.assertIsInstance(lost, tuple)
                        self.assertEqual(list(lost), sorted(set(lost)))
                        there = [number for queue in rest[1] for number, _ in queue]
                        own = [number for c in failed for number, _ in state[1][c]]
                        before = [number for queue in state[1] for number, _ in queue]
                        self.assertEqual(sorted(there + list(lost)), sorted(before))
                        gone += len(own)
                        gone_elsewhere += len(lost) - len(own)
                        kept += len(there)
        self.assertTrue(min(gone, gone_elsewhere, kept) > 100, (gone, gone_elsewhere, kept))

    def test_no_channel_and_all_channels(self):
        for fabric in SMALL + (TORUS, MESH, ring(17)):
            state = packed_state(fabric, 4)
            self.assertEqual(after_failure(fabric, state, ()), (fabric, state, ()))
            many = len(fabric[0][1])
            left, rest, lost = after_failure(fabric, state, tuple(range(many)))
            self.assertEqual(left, (fabric[0], table_of(fabric[0][0], {})))
            self.assertEqual(rest, (state[0], ((),) * many))
            self.assertEqual(lost, tuple(sorted(number for queue in state[1] for number, _ in queue)))
            self.assertEqual(after_failure(fabric, empty_state(fabric), (0,))[1:], (empty_state(fabric), ()))

    def test_by_hand(self):
        # 0 -> 1 -> 2 -> 3, all packets for 3.
        state = (9, (((4, 3),), ((0, 3),), ((7, 3),)))
        left, rest, lost = after_failure(CHAIN4, state, (1,))
        # The packet in 2 is home; that in 0 comes to a node from which 3 is not served any more.
        self.assertEqual(rest, (9, ((), (), ((7, 3),))))
        self.assertEqual(lost, (0, 4))
        self.assertEqual(left, (CHAIN4[0], table_of(4, {(2, 3): (2,)})))
        self.assertEqual(after_failure(CHAIN4, state, (2,))[1:], ((9, ((), (), ())), (0, 4, 7)))
        self.assertEqual(after_failure(CHAIN4, state, (0,))[1:], ((9, ((), ((0, 3),), ((7, 3),))), (4,)))
        # A packet that is home stays, even if nothing is served there.
        state = (3, (((2, 1), (0, 1)), ((1, 0),)))
        self.assertEqual(after_failure(PAIR, state, (1,)), ((PAIR[0], (((), (0,)), ((), ()))),
            (3, (((2, 1), (0, 1)), ())), (1,)))

    def test_the_others_stay_in_their_order(self):
        # Channel 0 leads to the node 1, from which 2 or 3 lead on for the goals 2 and 3.
        network = (4, ((0, 1, 9), (1, 2, 1), (1, 3, 1)))
        table = table_of(4, {(0, 1): (0,), (0, 2): (0,), (0, 3): (0,), (1, 2): (1,), (1, 3): (2,)})
        state = (20, (((9, 2), (3, 3), (8, 1), (7, 2), (1, 3), (5, 1)), ((2, 2),), ()))
        _, rest, lost = after_failure((network, table), state, (1,))
        self.assertEqual(rest, (20, (((3, 3), (8, 1), (1, 3), (5, 1)), (), ())))
        self.assertEqual(lost, (2, 7, 9))
        _, rest, lost = after_failure((network, table), state, (1, 2))
        self.assertEqual(rest, (20, (((8, 1), (5, 1)), (), ())))
        self.assertEqual(lost, (1, 2, 3, 7, 9))

    def test_a_knot_behind_a_failure(self):
        # With channel 3 the packets have a way out of the ring.
        network = (3, ((0, 1, 1), (1, 2, 1), (2, 0, 1), (1, 2, 1)))
        cells = {(u, d): (u,) for u in range(3) for d in range(3) if u != d}
        fabric = (network, table_of(3, {**cells, (1, 2): (1, 3), (1, 0): (1, 3), (0, 2): (0,)}))
        self.assertIs(has_knot(fabric), True)
        ranked = (network, table_of(3, {(0, 2): (0,), (1, 2): (1, 3), (1, 0): (1,), (2, 1): (2,), (0, 1): (0,),
            (2, 0): (2,)}))
        self.assertIs(has_knot(ranked), False)
        left = after_failure(ranked, empty_state(ranked), (3,))[0]
        self.assertIs(has_knot(left), True)
        self.assertEqual(least_break(ranked, 4), (3,))


class CutTest(unittest.TestCase):
    def test_all_sets_of_channels(self):
        cut, whole = 0, 0
        for fabric in SMALL:
            many = len(fabric[0][1])
            for size in range(4):
                for failed in itertools.combinations(range(many), size):
                    right = plain_cut(fabric, failed)
                    found = cut_off(fabric, failed)
                    self.assertIsInstance(found, list)
                    self.assertEqual(found, right)
                    self.assertEqual(found, sorted(set(found)))
                    cut += right != []
                    whole += right == []
        self.assertTrue(cut > 500 and whole > 200, (cut, whole))

    def test_by_hand(self):
        self.assertEqual(cut_off(CHAIN4, ()), [])
        self.assertEqual(cut_off(CHAIN4, (2,)), [(0, 3), (1, 3), (2, 3)])
        self.assertEqual(cut_off(CHAIN4, (1,)), [(0, 3), (1, 3)])
        self.assertEqual(cut_off(CHAIN4, (0, 2)), [(0, 3), (1, 3), (2, 3)])
        self.assertEqual(cut_off(DOUBLE, (0,)), [])
        self.assertEqual(cut_off(DOUBLE, (0, 1)), [(0, 1)])
        self.assertEqual(cut_off(NO_OPTIONS, (0,)), [])
        self.assertEqual(cut_off(TORUS, tuple(range(72))), served(TORUS))

    def test_great_ones(self):
        fabric = greatest()
        self.assertEqual(cut_off(fabric, (0, 399)), [])
        out = fabric[1][5][6]
        self.assertEqual(cut_off(fabric, out), [(5, d) for d in range(64) if d != 5])


class LeastTest(unittest.TestCase):
    def test_against_all_sets(self):
        breaks, cuts = {}, {}
        for fabric in [fabric for fabric in SMALL if len(fabric[0][1]) <= 7]:
            for k in range(5):
                right = least_of(fabric, k, lambda some: has_knot(plain_without(fabric, some)))
                self.assertEqual(least_break(fabric, k), right)
                size = None if right is None else len(right)
                breaks[size] = breaks.get(size, 0) + 1
                right = least_of(fabric, k, lambda some: plain_cut(fabric, some) != [])
                self.assertEqual(least_cut(fabric, k), right)
                size = None if right is None else len(right)
                cuts[size] = cuts.get(size, 0) + 1
        self.assertTrue(breaks[0] > 20 and breaks[1] > 0 and breaks[None] > 20, breaks)
        self.assertTrue(cuts[1] > 20 and cuts[None] > 20, cuts)

    def test_two_and_three_lanes(self):
        # Of each link as many lanes as told lead from node to node; each pair is served by all of the next link.
        for lanes in (1, 2, 3, 4):
            network = (3, tuple((u, (u + 1) % 3, 1) for u in (0, 1) for _ in range(lanes)))
            out = [tuple(range(lanes)), tuple(range(lanes, 2 * lanes))]
            fabric = (network, table_of(3, {(0, 1): out[0], (0, 2): out[0], (1, 2): out[1]}))
            for k in range(5):
                self.assertEqual(least_cut(fabric, k), out[0] if k >= lanes else None)
                self.assertIs(least_break(fabric, k), None)

    def test_breaks_of_several_channels(self):
        # The ring is open as long as one of the channels beside the channel 1 works.
        for beside in (1, 2, 3, 4):
            network = (3, ((0, 1, 1), (1, 2, 1), (2, 0, 1)) + ((1, 2, 1),) * beside)
            more = tuple(range(3, 3 + beside))
            fabric = (network, table_of(3, {
                (0, 2): (0,), (1, 2): (1,) + more, (1, 0): (1,), (2, 1): (2,), (0, 1): (0,), (2, 0): (2,),
            }))
            self.assertIs(has_knot(fabric), False)
            for k in range(5):
                self.assertEqual(least_break(fabric, k), more if k >= beside else None)
                self.assertEqual(least_of(fabric, k, lambda some: has_knot(plain_without(fabric, some))),
                    least_break(fabric, k))

    def test_a_fabric_with_a_knot(self):
        for fabric in (RING3, MIXED, ring(5), greatest()):
            for k in range(5):
                self.assertEqual(least_break(fabric, k), ())

    def test_none(self):
        for k in range(5):
            self.assertIs(least_cut(NO_OPTIONS, k), None)
            self.assertIs(least_break(NO_OPTIONS, k), None)
            self.assertIs(least_break(CHAIN4, k), None)
        self.assertIs(least_cut(CHAIN4, 0), None)
        self.assertEqual(least_cut(CHAIN4, 1), (0,))

    def test_channels_that_are_no_options(self):
        network = (3, ((1, 0, 1), (2, 1, 1), (0, 1, 1), (1, 2, 1), (0, 2, 1)))
        fabric = (network, table_of(3, {(0, 2): (2, 4), (1, 2): (3,)}))
        self.assertEqual(least_cut(fabric, 4), (3,))
        fabric = (network, table_of(3, {(0, 2): (2, 4), (1, 2): (3,), (1, 0): (0,)}))
        self.assertEqual(least_cut(fabric, 4), (0,))

    def test_known_fabrics(self):
        network = network_of(complete(4), 1, 1)
        fabric = (network, up_down(network, 0))
        found = least_cut(fabric, 3)
        self.assertEqual(found, least_of(fabric, 3, lambda some: cut_off(fabric, some) != []))
        found = least_break(fabric, 2)
        self.assertEqual(found, least_of(fabric, 2, lambda some: greatest_knot(case_of(without_channels(fabric,
            some)))))
        fabric = (network, shortest(network))
        # Each pair has one channel.
        self.assertEqual(least_cut(fabric, 2), (0,))
        self.assertIs(least_break(fabric, 2), None)

    def test_the_fabric_is_as_before(self):
        fabric = (RING3[0], put_at(RING3[1], (2, 1), ()))
        told = repr(fabric)
        least_break(fabric, 3)
        least_cut(fabric, 3)
        self.assertEqual(repr(fabric), told)


if __name__ == "__main__":
    unittest.main()
