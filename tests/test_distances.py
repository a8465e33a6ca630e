import unittest

from places import SMALL_SIZES, places_of, plain_distances
from samples import CHAIN4, DOUBLE_NETWORK, FABRICS, greatest, random_network
from samples import ring as one_way_ring

from calmfabric.distances import distances, is_connected
from calmfabric.frames import complete, groups, line, mesh, network_of, ring, star, torus, tree
from calmfabric.tables import renamed


class DistancesTest(unittest.TestCase):
    def test_from_a_node_to_itself(self):
        for fabric in FABRICS:
            found = distances(fabric[0])
            self.assertEqual([found[u][u] for u in range(fabric[0][0])], [0] * fabric[0][0])

    def test_no_distance(self):
        self.assertEqual(distances((2, ((0, 1, 1),))), ((0, 1), (None, 0)))
        self.assertEqual(distances(CHAIN4[0]), (
            (0, 1, 2, 3), (None, 0, 1, 2), (None, None, 0, 1), (None, None, None, 0),
        ))
        self.assertEqual(distances((64, ((5, 9, 1),)))[5][9], 1)
        self.assertEqual(sum(row.count(None) for row in distances((64, ((5, 9, 1),)))), 64 * 63 - 1)

    def test_channels_with_the_same_source_and_target(self):
        self.assertEqual(distances(DOUBLE_NETWORK), ((0, 1, None), (1, 0, None), (None, None, 0)))
        twice = (3, ((0, 1, 1), (1, 2, 1), (0, 1, 9), (1, 2, 9), (2, 0, 1), (2, 0, 1)))
        self.assertEqual(distances(twice), ((0, 1, 2), (2, 0, 1), (1, 2, 0)))

    def test_rings_in_one_direction(self):
        for n in (3, 10, 64):
            self.assertEqual(distances(one_way_ring(n)[0]), tuple(
                tuple((d - u) % n for d in range(n)) for u in range(n)
            ))

    def test_known_forms(self):
        for n in (3, 8, 64):
            self.assertEqual(distances(network_of(line(n), 1, 1)), tuple(
                tuple(abs(u - d) for d in range(n)) for u in range(n)
            ))
            self.assertEqual(distances(network_of(ring(n), 3 if n < 64 else 1, 1)), tuple(
                tuple(min((u - d) % n, (d - u) % n) for d in range(n)) for u in range(n)
            ))
        self.assertEqual(distances(network_of(star(4), 2, 1)), ((0, 1, 1, 1), (1, 0, 2, 2), (1, 2, 0, 2), (1, 2, 2, 0)))

    def test_places(self):
        for sizes in SMALL_SIZES:
            places = places_of(sizes)
            self.assertEqual(distances(network_of(mesh(sizes), 1, 1)), tuple(
                tuple(sum(abs(a - b) for a, b in zip(x, y)) for y in places) for x in places
            ))
            self.assertEqual(distances(network_of(torus(sizes), 1, 1)), tuple(
                tuple(sum(min((a - b) % s, (b - a) % s) for a, b, s in zip(x, y, sizes)) for y in places) for x in places
            ))

    def test_against_the_plain_way(self):
        missing = 0
        networks = [random_network(seed) for seed in range(150)] + [fabric[0] for fabric in FABRICS]
        networks += [network_of(groups(4, 3), 1, 1), network_of(tree((0, 0, 1, 1, 4)), 2, 1), greatest()[0]]
        for network in networks:
            found = distances(network)
            self.assertEqual(found, plain_distances(network))
            self.assertIsInstance(found, tuple)
            missing += any(None in row for row in found)
        self.assertGreater(missing, 50)


class ConnectedTest(unittest.TestCase):
    def test_connected(self):
        for frame in (line(2), line(64), ring(9), complete(5), star(6), tree((0, 1, 0)), mesh((2, 2)), groups(5, 4)):
            self.assertIs(is_connected(network_of(frame, 1, 1)), True)
        self.assertIs(is_connected(one_way_ring(64)[0]), True)
        self.assertIs(is_connected(greatest()[0]), True)

    def test_not_connected(self):
        for network in ((2, ((0, 1, 1),)), CHAIN4[0], DOUBLE_NETWORK, (3, ((0, 1, 1), (1, 0, 1)))):
            self.assertIs(is_connected(network), False)
        # Two parts, each of them connected.
        self.assertIs(is_connected(network_of((6, ((0, 1), (1, 2), (3, 4), (4, 5))), 2, 1)), False)

    def test_each_channel_of_a_ring_is_needed(self):
        for n in (3, 6):
            channels = one_way_ring(n)[0][1]
            for c in range(n):
                self.assertIs(is_connected((n, channels[:c] + channels[c + 1:])), False)

    def test_one_node_that_has_no_way_out_or_in(self):
        for k in range(5):
            nodes = tuple(range(k, 5)) + tuple(range(k))
            for last in ((4, 0), (0, 4)):
                channels = tuple((u, (u + 1) % 4, 1) for u in range(4)) + (last + (1,),)
                fabric = ((5, channels), (((),) * 5,) * 5)
                self.assertIs(is_connected(renamed(fabric, nodes, tuple(range(5)))[0]), False)

    def test_by_the_words(self):
        answers = []
        for seed in range(150):
            network = random_network(seed)
            found = plain_distances(network)
            answers.append(is_connected(network))
            self.assertIs(answers[-1], not any(None in row for row in found))
        self.assertGreater(answers.count(True), 10)
        self.assertGreater(answers.count(False), 10)


if __name__ == "__main__":
    unittest.main()
