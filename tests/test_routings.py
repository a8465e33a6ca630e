import itertools
import random
import unittest

from places import (
    FRAMES, PLANES, SIZES, SMALL_SIZES, TORI, differences, lanes_for, places_of, plain_distances, plain_mesh,
    plain_network, plain_torus,
)
from samples import CHAIN4, DOUBLE_NETWORK, FABRICS, greatest, plain_thinned, random_fabric, random_network, table_of
from samples import ring as one_way_ring

from calmfabric.errors import FabricError, NotAllowed
from calmfabric.frames import line, mesh, network_of, ring, torus
from calmfabric.networks import is_fabric, is_full
from calmfabric.routings import (
    dateline, dimension_order, in_lanes, negative_first, north_last, shortest, up_down, west_first, with_escape,
)
from calmfabric.tables import empty_table, thinned, union, with_option, without_option


def table_by(network, allowed):
    """The table with just those options c at u for d that a function allows."""
    n, channels = network
    return table_of(n, {
        (u, d): tuple(c for c in range(len(channels)) if channels[c][0] == u and allowed(u, d, c))
        for u in range(n) for d in range(n) if u != d
    })


def change_by(network, places, c):
    """The coordinate that a channel changes, and by how much."""
    u, v, _ = network[1][c]
    return differences(places[u], places[v])[0]


def is_useful(network, places, d, c):
    """Whether a channel of a mesh brings one coordinate nearer to that of the goal."""
    u, v, _ = network[1][c]
    i, _ = change_by(network, places, c)
    return abs(places[v][i] - places[d][i]) == abs(places[u][i] - places[d][i]) - 1


def preferring(network, sizes, preferred):
    """The table of the useful channels that change a coordinate in a preferred way, or else of all useful ones."""
    places = places_of(sizes)
    n, channels = network
    cells = {}
    for u, d in itertools.permutations(range(n), 2):
        numbers = [c for c in range(len(channels)) if channels[c][0] == u and is_useful(network, places, d, c)]
        cells[u, d] = [c for c in numbers if preferred(*change_by(network, places, c))] or numbers
    return table_of(n, cells)


class TableCase(unittest.TestCase):
    def refused(self, function, *arguments):
        with self.assertRaises(NotAllowed) as caught:
            function(*arguments)
        self.assertIsInstance(caught.exception, FabricError)

    def is_full_fabric(self, network, table):
        self.assertIs(is_fabric((network, table)), True)
        self.assertIs(is_full((network, table)), True)


class ShortestTest(TableCase):
    def check(self, network):
        far = plain_distances(network)
        channels = network[1]

        def allowed(u, d, c):
            return far[u][d] is not None and far[channels[c][1]][d] == far[u][d] - 1

        table = shortest(network)
        self.assertEqual(table, table_by(network, allowed))
        self.assertIs(is_fabric((network, table)), True)
        for u, d in itertools.permutations(range(network[0]), 2):
            self.assertEqual(table[u][d] == (), far[u][d] is None)

    def test_small_ones(self):
        self.assertEqual(shortest(network_of(ring(4), 1, 2))[0], ((), (0,), (0, 2), (2,)))
        self.assertEqual(shortest((2, ((0, 1, 1),))), (((), (0,)), ((), ())))
        self.assertEqual(shortest(DOUBLE_NETWORK), (((), (0, 1), ()), ((2,), (), ()), ((), (), ())))
        self.assertEqual(shortest(CHAIN4[0])[0], ((), (0,), (0,), (0,)))

    def test_option_by_option(self):
        for frame in FRAMES:
            for lanes in (1, 2):
                network = network_of(frame, lanes, 3)
                self.check(network)
                self.is_full_fabric(network, shortest(network))
        for fabric in FABRICS + (one_way_ring(30),):
            self.check(fabric[0])
        for seed in range(100):
            self.check(random_network(seed))

    def test_the_greatest_network(self):
        network = greatest()[0]
        self.check(network)
        self.is_full_fabric(network, shortest(network))

    def test_the_room_does_not_matter(self):
        self.assertEqual(shortest(network_of(mesh((3, 3)), 2, 1)), shortest(network_of(mesh((3, 3)), 2, 1000)))


class DimensionOrderTest(TableCase):
    def test_small_ones(self):
        self.assertEqual(dimension_order((3,), 1), (((), (0,), (0,)), ((1,), (), (2,)), ((3,), (3,), ())))
        self.assertEqual(dimension_order((2,), 2), (((), (0, 1)), ((2, 3), ())))
        # The links of (2, 2) are 0-1, 0-2, 1-3, 2-3; the first coordinate goes first.
        self.assertEqual(dimension_order((2, 2), 1), (
            ((), (0,), (2,), (2,)), ((1,), (), (4,), (4,)), ((3,), (3,), (), (6,)), ((5,), (5,), (7,), ()),
        ))

    def test_option_by_option(self):
        for sizes in SIZES:
            places = places_of(sizes)
            links = plain_mesh(sizes)
            for lanes in lanes_for(sizes, links):
                network = plain_network(len(places), links, lanes)

                def allowed(u, d, c):
                    i = differences(places[u], places[d])[0][0]
                    return change_by(network, places, c)[0] == i and is_useful(network, places, d, c)

                table = dimension_order(sizes, lanes)
                self.assertEqual(table, table_by(network, allowed))
                self.is_full_fabric(network, table)
                self.assertEqual({len(cell) for row in table for cell in row}, {0, lanes})


class TurnModelTest(TableCase):
    def check(self, function, sizes, preferred):
        links = plain_mesh(sizes)
        for lanes in lanes_for(sizes, links):
            network = plain_network(len(places_of(sizes)), links, lanes)
            table = function(sizes, lanes)
            self.assertEqual(table, preferring(network, sizes, preferred))
            self.is_full_fabric(network, table)

    def test_small_ones(self):
        # 0-1, 0-2, 1-3, 2-3: from 1 to 2 and from 2 to 1 one coordinate is raised and one is lowered.
        self.assertEqual(negative_first((2, 2), 1)[0][3], (0, 2))
        self.assertEqual(negative_first((2, 2), 1)[3][0], (5, 7))
        self.assertEqual(negative_first((2, 2), 1)[1][2], (1,))
        self.assertEqual(negative_first((2, 2), 1)[2][1], (3,))
        self.assertEqual(west_first((2, 2), 1)[1][2], (1,))
        self.assertEqual(west_first((2, 2), 1)[2][1], (3, 6))
        self.assertEqual(west_first((2, 2), 1)[3][0], (7,))
        self.assertEqual(west_first((2, 2), 1)[0][3], (0, 2))
        self.assertEqual(north_last((2, 2), 1)[0][3], (0,))
        self.assertEqual(north_last((2, 2), 1)[1][2], (1,))
        self.assertEqual(north_last((2, 2), 1)[2][1], (3, 6))
        self.assertEqual(north_last((2, 2), 1)[3][0], (5, 7))
        self.assertEqual(negative_first((2,), 2), (((), (0, 1)), ((2, 3), ())))

    def test_negative_first_option_by_option(self):
        for sizes in SIZES:
            self.check(negative_first, sizes, lambda i, by: by < 0)

    def test_west_first_option_by_option(self):
        for sizes in PLANES:
            self.check(west_first, sizes, lambda i, by: i == 1 and by < 0)

    def test_north_last_option_by_option(self):
        for sizes in PLANES:
            self.check(north_last, sizes, lambda i, by: not (i == 0 and by > 0))

    def test_they_are_four_different_tables(self):
        tables = [function((3, 3), 1) for function in (dimension_order, negative_first, west_first, north_last)]
        self.assertEqual(len(set(tables)), 4)

    def test_without_two_sizes(self):
        for function in (west_first, north_last):
            for sizes in ((4,), (64,), (2, 2, 2), (1, 3, 3), (3, 3, 1), (2, 2, 2, 2, 2, 2)):
                for lanes in (1, 2):
                    self.refused(function, sizes, lanes)
            self.assertEqual(len(function((1, 3), 1)), 3)


class NoSuchNetworkTest(TableCase):
    def test_sizes_and_lanes_for_which_there_is_no_network(self):
        for function in (dimension_order, negative_first, west_first, north_last):
            for sizes, lanes in (((9, 9), 1), ((0, 5), 1), ((1, 1), 1), ((3, 3), 0), ((3, 3), 9), ((8, 8), 3)):
                self.refused(function, sizes, lanes)
        for sizes, lanes in (((65,), 2), ((), 2), ((3,), 9), ((5, 5), 5), ((1,), 2), ((2,) * 7, 2)):
            self.refused(dateline, sizes, lanes)


class DatelineTest(TableCase):
    def plain_cell(self, sizes, place, goal, lanes, network):
        """The option at a place for another one, worked out by walking along the row."""
        i = differences(place, goal)[0][0]
        s, t = sizes[i], goal[i]
        if s <= 2:
            return self.channels(network, sizes, place, place[:i] + (t,) + place[i + 1:])[0]
        upwards = [(place[i] + k) % s for k in range(s)]
        downwards = [(place[i] - k) % s for k in range(s)]
        row = upwards[:upwards.index(t) + 1]
        crosses = (s - 1, 0)
        # Just half of a ring is upwards.
        if len(row) > len(downwards[:downwards.index(t) + 1]):
            row = downwards[:downwards.index(t) + 1]
            crosses = (0, s - 1)
        lane = 1 if crosses in list(zip(row, row[1:])) else 0
        return self.channels(network, sizes, place, place[:i] + (row[1],) + place[i + 1:])[lane]

    def channels(self, network, sizes, place, other):
        """The channels from a place to another one, by their lanes."""
        places = places_of(sizes)
        ends = (places.index(place), places.index(other))
        return [c for c, channel in enumerate(network[1]) if channel[:2] == ends]

    def test_rings(self):
        # The links of the ring of 4 are 0-1, 0-3, 1-2, 2-3, with 4 channels each.
        table = dateline((4,), 2)
        self.assertEqual(table[0], ((), (0,), (0,), (5,)))
        self.assertEqual(table[1], ((2,), (), (8,), (8,)))
        self.assertEqual(table[2], ((13,), (10,), (), (12,)))
        self.assertEqual(table[3], ((7,), (7,), (14,), ()))
        self.assertEqual(dateline((2,), 2), (((), (0,)), ((2,), ())))
        self.assertEqual(dateline((2, 1), 3), (((), (0,)), ((3,), ())))
        self.assertEqual(dateline((3,), 2), (((), (0,), (5,)), ((2,), (), (8,)), ((7,), (10,), ())))

    def test_option_by_option(self):
        for sizes in TORI:
            places = places_of(sizes)
            links = plain_torus(sizes)
            for lanes in lanes_for(sizes, links)[1:]:
                network = plain_network(len(places), links, lanes)
                table = dateline(sizes, lanes)
                for u, d in itertools.permutations(range(len(places)), 2):
                    c = self.plain_cell(sizes, places[u], places[d], lanes, network)
                    self.assertEqual(table[u][d], (c,), (sizes, lanes, u, d))
                self.is_full_fabric(network, table)

    def test_half_a_ring_is_upwards(self):
        for s in (4, 6, 8, 10):
            table = dateline((s,), 2)
            channels = network_of(ring(s), 2, 1)[1]
            for u in range(s):
                (c,) = table[u][(u + s // 2) % s]
                self.assertEqual(channels[c][:2], (u, (u + 1) % s))
                (c,) = table[u][(u + s // 2 + 1) % s]
                self.assertEqual(channels[c][:2], (u, (u - 1) % s))

    def test_more_lanes_are_no_options(self):
        for c in {c for row in dateline((5, 3), 5) for cell in row for c in cell}:
            self.assertLess(c % 5, 2)

    def test_one_lane(self):
        for sizes in TORI:
            for lanes in (1, 0, -1):
                self.refused(dateline, sizes, lanes)

    def test_greatest(self):
        network = network_of(torus((7, 7)), 2, 1)
        self.is_full_fabric(network, dateline((7, 7), 2))


class UpDownTest(TableCase):
    def plain(self, network, root):
        """The table by the words of [3.6]."""
        n, channels = network
        far = plain_distances(network)
        nodes = sorted(range(n), key=lambda u: (far[root][u], u))
        position = {u: k for k, u in enumerate(nodes)}
        down = [c for c, (u, v, _) in enumerate(channels) if position[v] > position[u]]
        below = {u: {u} for u in range(n)}
        for _ in range(n):
            for c in down:
                u, v, _ = channels[c]
                below[u] = below[u] | below[v]

        def allowed(u, d, c):
            if d in below[u]:
                return c in down and d in below[channels[c][1]]
            return c not in down

        return table_by(network, allowed)

    def test_small_ones(self):
        # A row of 0, 1, 2 with the root in the middle.
        self.assertEqual(up_down(network_of(line(3), 1, 1), 1), (((), (0,), (0,)), ((1,), (), (2,)), ((3,), (3,), ())))
        # In the ring of 3 one can go down from 0 by 1 to 2, and up from 2 by 1 to 0.
        self.assertEqual(up_down(network_of(ring(3), 1, 1), 0), (
            ((), (0,), (0, 2)), ((1,), (), (4,)), ((3, 5), (3, 5), ()),
        ))
        # With the root 2 the positions of 0, 1, 2 are 1, 2, 0.
        self.assertEqual(up_down(network_of(ring(3), 1, 1), 2), (
            ((), (0,), (2,)), ((1, 4), (), (1, 4)), ((3,), (3, 5), ()),
        ))

    def test_option_by_option(self):
        for frame in FRAMES:
            for lanes in (1, 2):
                network = network_of(frame, lanes, 1)
                for root in range(frame[0]):
                    table = up_down(network, root)
                    self.assertEqual(table, self.plain(network, root))
                    self.is_full_fabric(network, table)

    def test_down_channels_that_lead_astray(self):
        # Down to 3 by 1 and by 2, down to 2 by 1, too, and from 2 to 1 only up.
        links = ((0, 1), (0, 2), (1, 2), (1, 3), (2, 3))
        table = up_down(network_of((4, links), 1, 1), 0)
        self.assertEqual(table[0], ((), (0,), (0, 2), (0, 2)))
        self.assertEqual(table[1], ((1,), (), (4,), (4, 6)))
        self.assertEqual(table[2], ((3, 5), (3, 5), (), (8,)))
        self.assertEqual(table[3], ((7, 9), (7, 9), (7, 9), ()))

    def test_one_way_channels(self):
        answers = []
        for seed in range(400):
            network = random_network(seed)
            n, channels = network
            far = plain_distances(network)
            for root in range(n):
                fits = not any(None in row for row in far)
                if fits:
                    place = {u: k for k, u in enumerate(sorted(range(n), key=lambda u: (far[root][u], u)))}
                    climbing = {u for u, v, _ in channels if place[v] < place[u]}
                    fits = climbing == set(range(n)) - {root}
                answers.append(fits)
                if fits:
                    self.assertEqual(up_down(network, root), self.plain(network, root))
                    self.is_full_fabric(network, up_down(network, root))
                else:
                    self.refused(up_down, network, root)
        self.assertGreater(answers.count(True), 40)
        self.assertGreater(answers.count(False), 40)

    def test_not_connected(self):
        for network in (CHAIN4[0], DOUBLE_NETWORK, (2, ((0, 1, 1),)), network_of((4, ((0, 1), (2, 3))), 1, 1)):
            for root in range(network[0]):
                self.refused(up_down, network, root)

    def test_connected_with_a_node_that_has_no_channel_up(self):
        for n in (3, 4, 9):
            network = one_way_ring(n)[0]
            for root in range(n):
                self.refused(up_down, network, root)
        # 0 -> 1 -> 2 -> 0 and back from 1: now each node has one, for the root 0 alone.
        network = (3, ((0, 1, 1), (1, 2, 1), (2, 0, 1), (1, 0, 1)))
        self.assertEqual(up_down(network, 0), (((), (0,), (0,)), ((3,), (), (1,)), ((2,), (2,), ())))
        self.refused(up_down, network, 2)

    def test_greatest(self):
        network = network_of(torus((4, 4, 4)), 1, 1)
        for root in (0, 21, 63):
            self.is_full_fabric(network, up_down(network, root))


class LanesTest(TableCase):
    def check(self, network, table, lanes, chosen):
        left = tuple(tuple(tuple(c for c in cell if c % lanes in chosen) for cell in row) for row in table)
        part = in_lanes(network, table, lanes, chosen)
        self.assertEqual(part, plain_thinned(network, left, lambda ends: ends[-1]))
        self.assertIs(is_fabric((network, part)), True)
        return part

    def test_no_lane_some_lanes_all_lanes(self):
        for sizes, lanes in (((3,), 2), ((2, 2), 3), ((3, 2), 2), ((3,), 8)):
            network = network_of(mesh(sizes), lanes, 1)
            for table in (dimension_order(sizes, lanes), negative_first(sizes, lanes), shortest(network)):
                self.assertEqual(in_lanes(network, table, lanes, ()), empty_table(network))
                self.assertEqual(in_lanes(network, table, lanes, tuple(range(lanes))), table)
                for chosen in ((0,), (1,), (lanes - 1,), (0, lanes - 1), (1, 0)):
                    part = self.check(network, table, lanes, chosen)
                    self.assertIs(is_full((network, part)), True)
                    for row, before in zip(part, table):
                        for cell, whole in zip(row, before):
                            self.assertEqual(cell, tuple(c for c in whole if c % lanes in chosen))

    def test_a_row_in_one_of_two_lanes(self):
        network = network_of(line(3), 2, 1)
        table = dimension_order((3,), 2)
        self.assertEqual(in_lanes(network, table, 2, (1,)), (((), (1,), (1,)), ((3,), (), (5,)), ((7,), (7,), ())))

    def test_lanes_twice_and_lanes_that_are_none(self):
        network = network_of(ring(4), 2, 1)
        table = shortest(network)
        self.assertEqual(in_lanes(network, table, 2, (1, 1)), in_lanes(network, table, 2, (1,)))
        self.assertEqual(in_lanes(network, table, 2, (5, 1, -1, 2)), in_lanes(network, table, 2, (1,)))
        self.assertEqual(in_lanes(network, table, 2, (2, 3)), empty_table(network))

    def test_what_is_left_is_thinned(self):
        # Ways across the end of a row change from the lane 1 to the lane 0.
        thinner = 0
        for sizes in ((4,), (5,), (3, 3), (4, 3)):
            network = network_of(torus(sizes), 2, 1)
            table = dateline(sizes, 2)
            for chosen in ((0,), (1,)):
                part = self.check(network, table, 2, chosen)
                cells = [(whole, cell) for rows in zip(table, part) for whole, cell in zip(*rows)]
                thinner += any(set(c for c in whole if c % 2 in chosen) != set(cell) for whole, cell in cells)
        self.assertGreater(thinner, 4)

    def test_drawn_tables(self):
        for seed in range(60):
            rng = random.Random(seed)
            frame = rng.choice(FRAMES[:14])
            lanes = rng.choice((1, 2, 3))
            network = network_of(frame, lanes, 1)
            table = shortest(network)
            for u, d in itertools.permutations(range(frame[0]), 2):
                for c in table[u][d]:
                    if rng.random() < 0.3:
                        table = without_option(table, u, d, c)
            chosen = tuple(rng.sample(range(lanes), rng.randint(1, lanes)))
            self.check(network, thinned(network, table), lanes, chosen)


class EscapeTest(TableCase):
    def parts(self, sizes):
        """The network of a mesh with two lanes, a table in the lane 0 and one in the lane 1."""
        network = network_of(mesh(sizes), 2, 1)
        base = in_lanes(network, dimension_order(sizes, 2), 2, (0,))
        other = in_lanes(network, shortest(network), 2, (1,))
        return network, base, other

    def test_the_union(self):
        for sizes in SMALL_SIZES:
            network, base, other = self.parts(sizes)
            table = with_escape(network, base, other)
            self.assertEqual(table, union(base, other))
            self.is_full_fabric(network, table)
            for u, d in itertools.permutations(range(network[0]), 2):
                self.assertEqual(set(table[u][d]), set(base[u][d]) | set(other[u][d]))
        self.assertEqual(with_escape(*self.parts((2,))), (((), (0, 1)), ((2, 3), ())))

    def test_either_may_be_the_base_if_it_is_full(self):
        network, base, other = self.parts((3, 2))
        self.assertEqual(with_escape(network, other, base), with_escape(network, base, other))

    def test_nothing_beside_the_base(self):
        network, base, _ = self.parts((3, 2))
        self.assertEqual(with_escape(network, base, empty_table(network)), base)

    def test_a_base_that_is_not_full(self):
        network, base, other = self.parts((2, 2))
        self.refused(with_escape, network, empty_table(network), other)
        for u, d in itertools.permutations(range(4), 2):
            less = base
            for c in base[u][d]:
                less = without_option(less, u, d, c)
            less = thinned(network, less)
            self.assertIs(is_full((network, less)), False)
            self.refused(with_escape, network, less, other)
            # The other table need not be full.
            self.assertIs(is_fabric((network, with_escape(network, base, thinned(network, without_option(
                other, u, d, other[u][d][0],
            ))))), True)

    def test_a_channel_in_both(self):
        network, base, other = self.parts((2, 2))
        self.refused(with_escape, network, base, base)
        self.refused(with_escape, network, base, union(base, other))
        # One channel, also for a goal for which it is no option in the base.
        for c, (u, v, _) in enumerate(network[1]):
            if c % 2 == 0:
                self.refused(with_escape, network, base, with_option(empty_table(network), u, v, c))
                self.refused(with_escape, network, base, with_option(other, u, v, c))
        # The channel 0 is an option of the base, but not at 0 for 3.
        also = thinned(network, with_option(other, 0, 3, 0))
        self.assertNotIn(0, base[0][3])
        self.assertIn(0, also[0][3])
        self.refused(with_escape, network, base, also)

    def test_drawn_tables(self):
        answers = []
        for seed in range(200):
            network, base = random_fabric(seed)
            n, channels = network
            rng = random.Random(seed)
            own = [c for c in range(len(channels)) if rng.random() < 0.7]
            far = plain_distances(network)
            base = table_by(network, lambda u, d, c: c in own and far[channels[c][1]][d] is not None)
            base = thinned(network, base)
            other = thinned(network, table_by(network, lambda u, d, c: c not in own or seed % 5 == 0 and c == own[0]))
            common = {c for row in base for cell in row for c in cell} & {c for row in other for cell in row for c in cell}
            answers.append(is_full((network, base)) and not common)
            if answers[-1]:
                self.assertEqual(with_escape(network, base, other), union(base, other))
            else:
                self.refused(with_escape, network, base, other)
        self.assertGreater(answers.count(True), 3)
        self.assertGreater(answers.count(False), 3)


if __name__ == "__main__":
    unittest.main()
