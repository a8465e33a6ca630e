import itertools
import random
import unittest

from places import SIZES, places_of, plain_mesh, plain_network, plain_torus
from samples import WRONG_INTEGERS, WRONG_KINDS, deep, paths_of, put_at

from calmfabric.errors import FabricError, NotAllowed
from calmfabric.frames import (
    MAX_LANES, channel_number, complete, groups, is_frame, line, link_of, mesh, network_of, node_at, place_of, ring, star,
    torus, tree,
)
from calmfabric.networks import is_network

HUGE = (10 ** 3000, -10 ** 3000, 10 ** 5000)


def all_links(n):
    return tuple(itertools.combinations(range(n), 2))


class FrameCase(unittest.TestCase):
    def refused(self, function, *arguments):
        with self.assertRaises(NotAllowed) as caught:
            function(*arguments)
        self.assertIsInstance(caught.exception, FabricError)
        self.assertIsInstance(caught.exception, ValueError)

    def is_right(self, frame, n, links):
        self.assertEqual(frame, (n, tuple(sorted(links))))
        self.assertEqual(len(set(links)), len(frame[1]))
        self.assertIs(is_frame(frame), True)
        self.assertIs(is_network(network_of(frame, 1, 1)), True)


class PlainFormsTest(FrameCase):
    def test_line(self):
        self.assertEqual(line(2), (2, ((0, 1),)))
        self.assertEqual(line(4), (4, ((0, 1), (1, 2), (2, 3))))
        for n in range(2, 65):
            self.is_right(line(n), n, [(i, i + 1) for i in range(n - 1)])

    def test_ring(self):
        self.assertEqual(ring(3), (3, ((0, 1), (0, 2), (1, 2))))
        self.assertEqual(ring(5), (5, ((0, 1), (0, 4), (1, 2), (2, 3), (3, 4))))
        for n in range(3, 65):
            self.is_right(ring(n), n, [tuple(sorted((i, (i + 1) % n))) for i in range(n)])

    def test_complete(self):
        self.assertEqual(complete(4), (4, ((0, 1), (0, 2), (0, 3), (1, 2), (1, 3), (2, 3))))
        for n in range(2, 21):
            self.is_right(complete(n), n, all_links(n))

    def test_star(self):
        self.assertEqual(star(4), (4, ((0, 1), (0, 2), (0, 3))))
        for n in range(2, 65):
            self.is_right(star(n), n, [(0, i) for i in range(1, n)])

    def test_too_small_and_too_great(self):
        for function, least, greatest in ((line, 2, 64), (ring, 3, 64), (complete, 2, 20), (star, 2, 64)):
            self.assertEqual(function(least)[0], least)
            self.assertEqual(function(greatest)[0], greatest)
            for n in (-2, -1, 0, 1, least - 1, greatest + 1, 64 + greatest, 65, 66, 1000) + HUGE:
                self.refused(function, n)
        self.refused(ring, 2)
        self.refused(complete, 21)
        self.refused(complete, 64)


class TreeTest(FrameCase):
    def test_trees(self):
        self.assertEqual(tree((0,)), (2, ((0, 1),)))
        self.assertEqual(tree((0, 0, 1, 1, 0)), (6, ((0, 1), (0, 2), (0, 5), (1, 3), (1, 4))))
        self.assertEqual(tree((0, 1, 2)), line(4))
        self.assertEqual(tree((0,) * 63), star(64))
        self.assertEqual(tree(tuple(range(63))), line(64))

    def test_drawn_trees(self):
        for seed in range(60):
            rng = random.Random(seed)
            parents = tuple(rng.randint(0, i) for i in range(rng.randint(1, 63)))
            self.is_right(tree(parents), len(parents) + 1, [(parents[i], i + 1) for i in range(len(parents))])

    def test_too_few_and_too_many(self):
        self.refused(tree, ())
        self.refused(tree, (0,) * 64)
        self.refused(tree, (0,) * 1000)

    def test_parents_that_are_none(self):
        parents = (0, 1, 0, 3)
        self.assertEqual(tree(parents)[0], 5)
        for i in range(len(parents)):
            for parent in (-2, -1, i + 1, i + 2, 64) + HUGE:
                self.refused(tree, put_at(parents, (i,), parent))
            for parent in range(i + 1):
                self.assertIn((parent, i + 1), tree(put_at(parents, (i,), parent))[1])


class MeshTest(FrameCase):
    def test_meshes(self):
        self.assertEqual(mesh((2, 2)), (4, ((0, 1), (0, 2), (1, 3), (2, 3))))
        self.assertEqual(mesh((2, 3)), (6, ((0, 1), (0, 3), (1, 2), (1, 4), (2, 5), (3, 4), (4, 5))))
        self.assertEqual(mesh((64,)), line(64))
        self.assertEqual(mesh((1, 5, 1)), line(5))
        for sizes in SIZES:
            self.is_right(mesh(sizes), len(places_of(sizes)), plain_mesh(sizes))

    def test_cubes(self):
        for k in range(1, 7):
            links = [(u, u + 2 ** b) for u in range(2 ** k) for b in range(k) if not u & 2 ** b]
            self.is_right(mesh((2,) * k), 2 ** k, links)

    def test_tori(self):
        self.assertEqual(torus((3,)), (3, ((0, 1), (0, 2), (1, 2))))
        self.assertEqual(torus((2,)), (2, ((0, 1),)))
        self.assertEqual(torus((2, 3)), (6, (
            (0, 1), (0, 2), (0, 3), (1, 2), (1, 4), (2, 5), (3, 4), (3, 5), (4, 5),
        )))
        for n in range(3, 65):
            self.assertEqual(torus((n,)), ring(n))
            self.assertEqual(torus((1, n)), ring(n))
        for sizes in SIZES:
            self.is_right(torus(sizes), len(places_of(sizes)), plain_torus(sizes))

    def test_tori_with_sizes_up_to_two_are_meshes(self):
        for sizes in ((2,), (1, 2), (2, 2), (2, 1, 2, 2), (2,) * 6):
            self.assertEqual(torus(sizes), mesh(sizes))
        self.assertNotEqual(torus((3,)), mesh((3,)))

    def test_sizes_that_are_not_allowed(self):
        for function in (mesh, torus):
            for sizes in ((), (1,), (1, 1), (1,) * 6, (1,) * 7, (2,) + (1,) * 6, (2,) * 7, (1,) * 1000):
                self.refused(function, sizes)
            for size in (-2, -1, 0, 65) + HUGE:
                for sizes in ((size,), (size, 2), (2, size), (1, 2, 1, size)):
                    self.refused(function, sizes)
            # Sizes that are too small, though their product is not.
            for sizes in ((-2, -2, 3), (-1, -1, 4), (3, -1, -1), (-1, 4, -1), (5, -2, -2), (0, 0, 4)):
                self.refused(function, sizes)
            # More than 64 nodes, though each size is allowed; two negative ones; a factor of 0.
            for sizes in ((5, 13), (13, 5), (64, 2), (2, 64), (64,) * 6, (-2, -2), (0, 0), (-8, -8), (3, 3, 3, 3), (65, 0)):
                self.refused(function, sizes)
            self.assertEqual(function((64, 1))[0], 64)
            self.assertEqual(function((1, 1, 1, 1, 1, 64))[0], 64)
            self.assertEqual(function((7, 9))[0], 63)


class GroupsTest(FrameCase):
    def test_groups(self):
        self.assertEqual(groups(2, 1), (2, ((0, 1),)))
        self.assertEqual(groups(3, 2), (6, ((0, 1), (0, 2), (1, 4), (2, 3), (3, 5), (4, 5))))
        for g, a in itertools.product(range(2, 65), range(1, 33)):
            links = []
            for i in range(g):
                links += [(i * a + j, i * a + k) for j in range(a) for k in range(j + 1, a)]
                links += [(h * a + (i - 1) % a, i * a + h % a) for h in range(i)]
            if g * a <= 64 and 2 * len(links) <= 400:
                self.is_right(groups(g, a), g * a, links)
            else:
                self.refused(groups, g, a)

    def test_one_member_each(self):
        for g in range(2, 21):
            self.assertEqual(groups(g, 1), complete(g))

    def test_one_group_and_other_wrong_numbers(self):
        for count in (-2, -1, 0, 1, 65) + HUGE:
            for size in (1, 2, 5):
                self.refused(groups, count, size)
        for size in (-2, -1, 0, 65) + HUGE:
            for count in (2, 3, 9):
                self.refused(groups, count, size)
        self.refused(groups, -2, -2)
        self.refused(groups, 1, 64)
        self.refused(groups, 5, 13)
        # 64 nodes are allowed, but not 252 links.
        self.refused(groups, 8, 8)
        self.assertEqual(groups(12, 5)[0], 60)


class IsFrameTest(unittest.TestCase):
    FRAMES = (line(2), line(64), ring(5), complete(20), star(7), tree((0, 0, 2)), mesh((2, 3)), torus((4, 4, 4)), groups(4, 3))

    def test_frames(self):
        for frame in self.FRAMES:
            self.assertIs(is_frame(frame), True)
        self.assertIs(is_frame((64, ((0, 63),))), True)
        self.assertIs(is_frame((5, ((0, 1), (2, 3)))), True)

    def test_a_frame_may_have_more_links_than_a_network_has_room_for(self):
        self.assertIs(is_frame((64, all_links(64))), True)

    def test_number_of_nodes(self):
        for n, right in ((-1, False), (0, False), (1, False), (2, True), (3, True), (64, True), (65, False)):
            self.assertIs(is_frame((n, ((0, 1),))), right, n)
        self.assertIs(is_frame((65, ((0, 64),))), False)

    def test_order_of_the_links(self):
        right = ((0, 1), (0, 3), (1, 2), (2, 3))
        for links in itertools.permutations(right):
            self.assertIs(is_frame((4, links)), links == right)

    def test_a_link_twice(self):
        links = ((0, 1), (0, 3), (1, 2), (2, 3))
        for k in range(4):
            self.assertIs(is_frame((4, links[:k + 1] + links[k:])), False)
        self.assertIs(is_frame((2, ((0, 1), (0, 1)))), False)

    def test_nodes_of_links(self):
        for n in (2, 3, 64):
            for u in range(-2, n + 2):
                for v in range(-2, n + 2):
                    self.assertIs(is_frame((n, ((u, v),))), 0 <= u < v < n, (n, u, v))

    def test_no_link(self):
        for n in (2, 3, 64):
            self.assertIs(is_frame((n, ())), False)

    def test_bools_are_no_integers(self):
        for link in ((False, 1), (0, True), (False, True), (True, 2), (True, 2)):
            self.assertIs(is_frame((3, (link,))), False)
            self.assertIs(is_frame((3, (link, (1, 2)))), False)
        self.assertIs(is_frame((True, ((0, 1),))), False)

    def test_other_lengths(self):
        for value in ((), (2,), (2, ((0, 1),), ()), (2, (0, 1)), (2, ((0, 1),), 1)):
            self.assertIs(is_frame(value), False)
        for link in ((), (0,), (0, 1, 1), ((0, 1),), (0, 1, 2)):
            self.assertIs(is_frame((3, (link,))), False)
            self.assertIs(is_frame((3, ((0, 1), link))), False)
            self.assertIs(is_frame((3, (link, (1, 2)))), False)

    def test_other_kinds_in_each_place(self):
        frame = (4, ((0, 2), (1, 2), (2, 3)))
        self.assertIs(is_frame(frame), True)
        for path in paths_of(frame):
            for wrong in WRONG_KINDS + WRONG_INTEGERS + ((0, 1, 2), 7777):
                self.assertIs(is_frame(put_at(frame, path, wrong)), False, path)

    def test_any_values(self):
        for value in WRONG_KINDS + WRONG_INTEGERS + ("ab", ("ab", "cd"), (2, "ab"), (3, ("01", "12"))):
            self.assertIs(is_frame(value), False)
        for levels in (1, 2, 3, 4, 79, 80):
            self.assertIs(is_frame(deep(levels)), False)
            self.assertIs(is_frame((2, deep(levels))), False)
            self.assertIs(is_frame((2, ((0, 1), deep(levels)))), False)


class NetworkTest(FrameCase):
    def test_max_lanes(self):
        self.assertEqual(MAX_LANES, 8)

    def test_the_order_of_the_channels(self):
        self.assertEqual(network_of(mesh((2,)), 2, 5), (2, ((0, 1, 5), (0, 1, 5), (1, 0, 5), (1, 0, 5))))
        self.assertEqual(network_of(ring(3), 1, 7), (3, (
            (0, 1, 7), (1, 0, 7), (0, 2, 7), (2, 0, 7), (1, 2, 7), (2, 1, 7),
        )))
        for frame in (line(2), ring(5), star(9), tree((0, 0, 1, 0)), mesh((2, 3)), torus((3, 3)), groups(3, 2)):
            for lanes in (1, 2, 3, 8):
                for room in (1, 2, 1000):
                    network = network_of(frame, lanes, room)
                    self.assertEqual(network, plain_network(frame[0], frame[1], lanes, room))
                    self.assertIs(is_network(network), True)

    def test_numbers_of_channels(self):
        for frame in (ring(5), mesh((2, 3))):
            for lanes in (1, 2, 8):
                channels = network_of(frame, lanes, 4)[1]
                seen = []
                for i, (u, v) in enumerate(frame[1]):
                    for lane in range(lanes):
                        c = channel_number(lanes, i, 0, lane)
                        back = channel_number(lanes, i, 1, lane)
                        self.assertEqual(c, 2 * lanes * i + lane)
                        self.assertEqual(back, 2 * lanes * i + lanes + lane)
                        self.assertEqual((channels[c], channels[back]), ((u, v, 4), (v, u, 4)))
                        self.assertEqual(link_of(lanes, c), (i, 0, lane))
                        self.assertEqual(link_of(lanes, back), (i, 1, lane))
                        seen += [c, back]
                self.assertEqual(sorted(seen), list(range(len(channels))))

    def test_numbers_turn_each_other_back(self):
        for lanes in range(1, 9):
            for c in range(400):
                self.assertEqual(channel_number(lanes, *link_of(lanes, c)), c)
            for told in itertools.product(range(25), (0, 1), range(lanes)):
                self.assertEqual(link_of(lanes, channel_number(lanes, *told)), told)

    def test_lanes_and_room_that_are_not_allowed(self):
        for lanes in (-2, -1, 0, 9, 10, 100) + HUGE:
            self.refused(network_of, line(2), lanes, 1)
        for room in (-2, -1, 0, 1001, 1002) + HUGE:
            self.refused(network_of, line(2), 1, room)
        for lanes, room in ((1, 1), (8, 1), (1, 1000), (8, 1000)):
            self.assertIs(is_network(network_of(line(2), lanes, room)), True)

    def test_as_many_channels_as_are_allowed_and_one_link_more(self):
        links = all_links(64)
        for lanes in (1, 2, 4, 5, 8):
            most = 200 // lanes
            self.assertEqual(len(network_of((64, links[:most]), lanes, 1)[1]), 400)
            self.refused(network_of, (64, links[:most + 1]), lanes, 1)
        self.refused(network_of, mesh((4, 4, 4)), 2, 1)
        self.refused(network_of, line(64), 4, 1)
        self.assertEqual(len(network_of(line(64), 3, 1)[1]), 378)

    def test_more_nodes_than_are_allowed(self):
        self.refused(network_of, (65, ((0, 64),)), 1, 1)


class PlaceTest(unittest.TestCase):
    def test_places_and_nodes(self):
        self.assertEqual(node_at((2, 3), (1, 2)), 5)
        self.assertEqual(node_at((2, 3), (1, 0)), 3)
        self.assertEqual(place_of((3, 2), 4), (2, 0))
        self.assertEqual(place_of((2, 3, 4), 23), (1, 2, 3))
        self.assertEqual(place_of((1, 1, 5), 3), (0, 0, 3))
        self.assertEqual(place_of((64,), 63), (63,))

    def test_they_turn_each_other_back(self):
        self.assertEqual({len(sizes) for sizes in SIZES}, {1, 2, 3, 4, 5, 6})
        for sizes in SIZES:
            for node, place in enumerate(places_of(sizes)):
                self.assertEqual(node_at(sizes, place), node)
                self.assertEqual(place_of(sizes, node), place)
                self.assertIsInstance(place_of(sizes, node), tuple)


if __name__ == "__main__":
    unittest.main()
