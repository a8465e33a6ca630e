import random
import unittest

from places import (
    FRAMES, PLANES, SIZES, SMALL_SIZES, TORI, differences, lanes_for, places_of, plain_distances, plain_mesh,
    plain_network, plain_torus,
)
from samples import CHAIN4, DOUBLE, FABRICS, WRONG_INTEGERS, WRONG_KINDS, deep, greatest, put_at, random_fabric
from samples import ring as one_way_ring

from calmfabric.errors import NotAllowed
from calmfabric.frames import line, mesh, network_of, ring, torus
from calmfabric.known_ranks import (
    are_ranks, dateline_ranks, dimension_ranks, escape_ranks, negative_ranks, north_ranks, up_down_ranks, west_ranks,
)
from calmfabric.networks import placements
from calmfabric.routings import (
    dateline, dimension_order, in_lanes, negative_first, north_last, shortest, up_down, west_first, with_escape,
)
from calmfabric.tables import empty_table


def plain_are_ranks(network, table, ranks):
    """Whether integers from 0 on are ranks, by the words of [3.1]."""
    n, channels = network
    for u in range(n):
        for d in range(n):
            for c in table[u][d]:
                v = channels[c][1]
                if v != d and not any(ranks[option] < ranks[c] for option in table[v][d]):
                    return False
    return len(ranks) == len(channels)


class RanksCase(unittest.TestCase):
    def are_right(self, network, table, ranks, expected):
        self.assertEqual(ranks, tuple(expected))
        self.assertTrue(all(type(rank) is int and rank >= 0 for rank in ranks))
        self.assertIs(are_ranks(network, table, ranks), True)
        self.assertTrue(plain_are_ranks(network, table, ranks))

    def refused(self, function, *arguments):
        with self.assertRaises(NotAllowed):
            function(*arguments)


class MeshRanksTest(RanksCase):
    def check(self, sizes, told, table_of, ranks_of):
        """Compare with the rank told for a place, a coordinate and whether it is raised."""
        places = places_of(sizes)
        links = plain_mesh(sizes)
        for lanes in lanes_for(sizes, links):
            network = plain_network(len(places), links, lanes)
            expected = []
            for u, v, _ in network[1]:
                ((i, by),) = differences(places[u], places[v])
                expected.append(told(places[u], i, by == 1))
            self.are_right(network, table_of(sizes, lanes), ranks_of(sizes, lanes), expected)

    def test_dimension_ranks(self):
        self.assertEqual(dimension_ranks((3,), 1), (2, 1, 1, 2))
        # 0-1, 0-2, 1-3, 2-3; the first coordinate has 2 more.
        self.assertEqual(dimension_ranks((2, 2), 1), (1, 1, 3, 3, 3, 3, 1, 1))
        self.assertEqual(dimension_ranks((1, 3), 2), (2, 2, 1, 1, 1, 1, 2, 2))
        for sizes in SIZES:
            def told(x, i, raises):
                r = sizes[i] - 1 - x[i] if raises else x[i]
                return (len(sizes) - 1 - i) * max(sizes) + r

            self.check(sizes, told, dimension_order, dimension_ranks)

    def test_negative_ranks(self):
        # The sum of sizes is 4: 0-1, 0-2, 1-3, 2-3.
        self.assertEqual(negative_ranks((2, 2), 1), (4, 6, 4, 6, 3, 7, 3, 7))
        for sizes in SIZES:
            def told(x, i, raises):
                return sum(sizes) - sum(x) if raises else sum(sizes) + 1 + sum(x)

            self.check(sizes, told, negative_first, negative_ranks)

    def test_west_ranks(self):
        self.assertEqual(west_ranks((2, 3), 1), (6, 10, 8, 8, 3, 11, 5, 5, 2, 2, 6, 10, 3, 11))
        for sizes in PLANES:
            def told(x, i, raises):
                a, b = sizes
                if i == 1:
                    return (b - 1 - x[1]) * (a + 1) if raises else (a + 1) * b + x[1]
                return (b - 1 - x[1]) * (a + 1) + (a - x[0] if raises else 1 + x[0])

            self.check(sizes, told, west_first, west_ranks)

    def test_north_ranks(self):
        self.assertEqual(north_ranks((2, 3), 1), (5, 4, 1, 6, 4, 5, 1, 6, 1, 6, 9, 8, 8, 9))
        for sizes in PLANES:
            def told(x, i, raises):
                a, b = sizes
                if i == 0:
                    return a - 1 - x[0] if raises else a + x[0] * (b + 1)
                return a + x[0] * (b + 1) + (b - x[1] if raises else 1 + x[1])

            self.check(sizes, told, north_last, north_ranks)

    def test_what_the_tables_refuse(self):
        for function in (west_ranks, north_ranks):
            for sizes in ((4,), (64,), (2, 2, 2), (1, 3, 3)):
                self.refused(function, sizes, 1)
                self.refused(function, sizes, 2)
        for function in (dimension_ranks, negative_ranks, west_ranks, north_ranks):
            for sizes, lanes in (((9, 9), 1), ((0, 5), 1), ((1, 1), 1), ((3, 3), 0), ((3, 3), 9), ((8, 8), 3)):
                self.refused(function, sizes, lanes)


class DatelineRanksTest(RanksCase):
    def test_rings(self):
        # The links of the ring of 4 are 0-1, 0-3, 1-2, 2-3; 0 to 3 lowers, and 3 to 0 raises.
        self.assertEqual(dateline_ranks((4,), 2), (3, 7, 1, 5, 0, 4, 0, 4, 2, 6, 2, 6, 1, 5, 3, 7))
        # The ends of a row of two are linked as in a mesh.
        self.assertEqual(dateline_ranks((2,), 2), (1, 3, 1, 3))
        self.assertEqual(dateline_ranks((2, 1), 2), (5, 7, 5, 7))
        self.assertEqual(dateline_ranks((3,), 3), (2, 5, 0, 1, 4, 0, 0, 3, 0, 0, 3, 0, 1, 4, 0, 2, 5, 0))

    def test_option_by_option(self):
        for sizes in TORI:
            places = places_of(sizes)
            links = plain_torus(sizes)
            for lanes in lanes_for(sizes, links)[1:]:
                network = plain_network(len(places), links, lanes)
                expected = []
                for c, (u, v, _) in enumerate(network[1]):
                    ((i, by),) = differences(places[u], places[v])
                    s = sizes[i]
                    raises = by == 1
                    if s >= 3 and abs(by) == s - 1:
                        raises = (places[u][i], places[v][i]) == (s - 1, 0)
                    r = s - 1 - places[u][i] if raises else places[u][i]
                    lane = c % lanes
                    told = (len(sizes) - 1 - i) * 2 * max(sizes) + s * lane + r
                    expected.append(told if lane < 2 else 0)
                self.are_right(network, dateline(sizes, lanes), dateline_ranks(sizes, lanes), expected)

    def test_what_the_table_refuses(self):
        for sizes in TORI:
            for lanes in (1, 0, -1):
                self.refused(dateline_ranks, sizes, lanes)
        for sizes, lanes in (((65,), 2), ((), 2), ((3,), 9), ((5, 5), 5), ((1,), 2)):
            self.refused(dateline_ranks, sizes, lanes)


class UpDownRanksTest(RanksCase):
    def test_option_by_option(self):
        # The positions of 0, 1, 2 are 1, 0, 2.
        self.assertEqual(up_down_ranks(network_of(line(3), 1, 1), 1), (4, 2, 2, 5))
        for frame in FRAMES:
            for lanes in (1, 2):
                network = network_of(frame, lanes, 1)
                n = frame[0]
                far = plain_distances(network)
                for root in range(n):
                    nodes = sorted(range(n), key=lambda u: (far[root][u], u))
                    expected = []
                    for u, v, _ in network[1]:
                        up = nodes.index(v) < nodes.index(u)
                        expected.append(n + nodes.index(u) if up else n - 1 - nodes.index(u))
                    self.are_right(network, up_down(network, root), up_down_ranks(network, root), expected)

    def test_what_the_table_refuses(self):
        for network in (CHAIN4[0], DOUBLE[0], one_way_ring(5)[0], (2, ((0, 1, 1),))):
            for root in range(network[0]):
                self.refused(up_down_ranks, network, root)
        network = (3, ((0, 1, 1), (1, 2, 1), (2, 0, 1), (1, 0, 1)))
        self.assertEqual(up_down_ranks(network, 0), (2, 1, 5, 4))
        self.refused(up_down_ranks, network, 2)


class EscapeRanksTest(RanksCase):
    def test_small_ones(self):
        network = network_of(mesh((3,)), 2, 1)
        base = in_lanes(network, dimension_order((3,), 2), 2, (1,))
        self.assertEqual(escape_ranks(network, base, (9, 2, 9, 1, 9, 1, 9, 2)), (3, 2, 3, 1, 3, 1, 3, 2))
        # The ranks of channels that are no options of the base do not count.
        self.assertEqual(escape_ranks(network, base, (0, 7, 0, 5, 999, 6, 0, 7)), (8, 7, 8, 5, 8, 6, 8, 7))

    def test_ranks_of_tables_with_escape(self):
        for sizes in SMALL_SIZES:
            network = network_of(mesh(sizes), 2, 1)
            other = in_lanes(network, shortest(network), 2, (1,))
            for table, ranks in (
                (dimension_order(sizes, 2), dimension_ranks(sizes, 2)),
                (negative_first(sizes, 2), negative_ranks(sizes, 2)),
            ):
                base = in_lanes(network, table, 2, (0,))
                most = max(rank for c, rank in enumerate(ranks) if c % 2 == 0)
                expected = [rank if c % 2 == 0 else most + 1 for c, rank in enumerate(ranks)]
                whole = with_escape(network, base, other)
                self.are_right(network, whole, escape_ranks(network, base, ranks), expected)

    def test_datelines_as_escape(self):
        for sizes in ((3,), (4,), (5,), (3, 3), (4, 2)):
            network = network_of(torus(sizes), 3, 1)
            base = dateline(sizes, 3)
            whole = with_escape(network, base, in_lanes(network, shortest(network), 3, (2,)))
            self.assertIs(are_ranks(network, whole, escape_ranks(network, base, dateline_ranks(sizes, 3))), True)

    def test_channels_that_are_no_options_in_the_base(self):
        network = network_of(ring(4), 1, 1)
        base = up_down(network, 0)
        own = {c for row in base for cell in row for c in cell}
        self.assertEqual(own, set(range(8)))
        self.assertEqual(escape_ranks(network, base, up_down_ranks(network, 0)), up_down_ranks(network, 0))


class AreRanksTest(RanksCase):
    def known(self):
        """Networks with tables and ranks of them."""
        yield network_of(mesh((3,)), 1, 2), dimension_order((3,), 1), dimension_ranks((3,), 1)
        yield network_of(mesh((3, 2)), 2, 2), west_first((3, 2), 2), west_ranks((3, 2), 2)
        yield network_of(torus((4,)), 2, 2), dateline((4,), 2), dateline_ranks((4,), 2)
        yield network_of(ring(5), 1, 2), up_down(network_of(ring(5), 1, 2), 2), up_down_ranks(network_of(ring(5), 1, 2), 2)

    def test_ranks_and_others(self):
        network = network_of(ring(4), 1, 2)
        self.assertIs(are_ranks(network, shortest(network), (0,) * 8), False)
        self.assertIs(are_ranks(*CHAIN4, (2, 1, 0)), True)
        self.assertIs(are_ranks(*CHAIN4, (2, 1, 1)), False)
        self.assertIs(are_ranks(*CHAIN4, (1, 1, 0)), False)
        self.assertIs(are_ranks(*CHAIN4, (0, 1, 2)), False)
        # Home placements need nothing, neither do channels that are no options.
        self.assertIs(are_ranks(*DOUBLE, (0, 0, 0)), True)
        self.assertIs(are_ranks(CHAIN4[0], empty_table(CHAIN4[0]), (0, 0, 0)), True)

    def test_a_ring_has_none(self):
        rng = random.Random(1)
        for n in (3, 5):
            network, table = one_way_ring(n)
            for _ in range(50):
                self.assertIs(are_ranks(network, table, tuple(rng.randint(0, 9) for _ in range(n))), False)

    def test_one_option_of_several_is_enough(self):
        # From 0 to 3 by 1 or by 2; the option at 1 may have any rank.
        network = (4, ((0, 1, 1), (0, 2, 1), (1, 3, 1), (1, 3, 1), (2, 3, 1)))
        table = (((), (0,), (1,), (0, 1)), ((), (), (), (2, 3)), ((), (), (), (4,)), ((), (), (), ()))
        self.assertIs(are_ranks(network, table, (1, 1, 0, 5, 0)), True)
        self.assertIs(are_ranks(network, table, (1, 1, 5, 0, 0)), True)
        self.assertIs(are_ranks(network, table, (1, 1, 1, 1, 0)), False)
        self.assertIs(are_ranks(network, table, (1, 1, 0, 5, 1)), False)

    def test_one_entry_wrong(self):
        for network, table, ranks in self.known():
            self.assertIs(are_ranks(network, table, ranks), True)
            for c in range(len(ranks)):
                for wrong in WRONG_KINDS + (-1, -2, -10 ** 3000, (ranks[c],), str(ranks[c])):
                    self.assertIs(are_ranks(network, table, put_at(ranks, (c,), wrong)), False)
                for rank in (0, 1, 2, ranks[c] + 1, max(ranks), max(ranks) + 1, 10 ** 3000):
                    other = put_at(ranks, (c,), rank)
                    self.assertIs(are_ranks(network, table, other), plain_are_ranks(network, table, other))

    def test_too_great_somewhere(self):
        # The last channel of each way has to be less than the one before.
        network, table, ranks = next(iter(self.known()))
        self.assertEqual(ranks, (2, 1, 1, 2))
        self.assertIs(are_ranks(network, table, (2, 1, 2, 2)), False)
        self.assertIs(are_ranks(network, table, (2, 2, 1, 2)), False)
        self.assertIs(are_ranks(network, table, (3, 1, 2, 9)), True)
        self.assertIs(are_ranks(network, table, (1, 0, 0, 1)), True)
        self.assertIs(are_ranks(network, table, (True, 0, 0, 1)), False)
        self.assertIs(are_ranks(network, table, (1, False, 0, 1)), False)
        self.assertIs(are_ranks(network, table, (0, -1, -1, 0)), False)

    def test_too_long_and_too_short(self):
        for network, table, ranks in self.known():
            for value in (ranks + (0,), ranks + (ranks[-1],), ranks[:-1], ranks[1:], (), ranks + ranks, (ranks,)):
                self.assertIs(are_ranks(network, table, value), False)

    def test_very_great_integers(self):
        for network, table, ranks in self.known():
            self.assertIs(are_ranks(network, table, tuple(rank + 10 ** 5000 for rank in ranks)), True)
            self.assertIs(are_ranks(network, table, tuple(rank * 10 ** 3000 for rank in ranks)), True)
            self.assertIs(are_ranks(network, table, (10 ** 5000,) * len(ranks)), False)
            self.assertIs(are_ranks(network, table, tuple(10 ** 5000 - rank for rank in ranks)), False)

    def test_any_values(self):
        for fabric in FABRICS:
            m = len(fabric[0][1])
            for value in WRONG_KINDS + WRONG_INTEGERS + (deep(79), 0, "0" * m, m):
                self.assertIs(are_ranks(*fabric, value), False)
                self.assertIs(are_ranks(*fabric, (value, 0) * m), False)
                if type(value) is not int or value < 0:
                    self.assertIs(are_ranks(*fabric, (value,) * m), False)

    def test_by_the_words(self):
        answers = []
        for seed in range(300):
            network, table = random_fabric(seed)
            rng = random.Random(seed)
            ranks = tuple(rng.randint(0, 4) for _ in network[1])
            answers.append(are_ranks(network, table, ranks))
            self.assertIs(answers[-1], plain_are_ranks(network, table, ranks))
        self.assertGreater(answers.count(True), 20)
        self.assertGreater(answers.count(False), 20)

    def test_the_greatest_fabric(self):
        network, table = greatest()
        self.assertGreater(len(placements((network, table))), 20000)
        self.assertIs(are_ranks(network, table, (5,) * 400), False)
        self.assertIs(are_ranks(network, shortest(network), tuple(range(400))), False)


if __name__ == "__main__":
    unittest.main()
