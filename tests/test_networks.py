import unittest

from samples import (
    CHAIN4, DOUBLE, DOUBLE_NETWORK, FABRICS, MIXED, NO_OPTIONS, PAIR, RING3, RING5, WRONG_INTEGERS, WRONG_KINDS,
    deep, greatest, paths_of, plain_dead_ends, put_at, random_fabric, random_network, random_table, ring, table_of,
)

from calmfabric.networks import (
    MAX_CHANNELS, MAX_NODES, MAX_ROOM, dead_ends, is_fabric, is_full, is_home, is_network, is_table, options,
    placements, served,
)


class ValueTest(unittest.TestCase):
    def yes(self, answer):
        self.assertIs(answer, True)

    def no(self, answer):
        self.assertIs(answer, False)


class IsNetworkTest(ValueTest):
    def test_limits(self):
        self.assertEqual((MAX_NODES, MAX_CHANNELS, MAX_ROOM), (64, 400, 1000))

    def test_networks(self):
        for fabric in FABRICS + (greatest(),):
            self.yes(is_network(fabric[0]))

    def test_number_of_nodes(self):
        for n, right in ((-2, False), (0, False), (1, False), (2, True), (3, True), (64, True), (65, False)):
            self.assertIs(is_network((n, ((0, 1, 1),))), right, n)
        self.no(is_network((1, ((0, 0, 1),))))
        self.no(is_network((65, ((63, 64, 1),))))
        self.yes(is_network((64, ((63, 62, 1),))))

    def test_number_of_channels(self):
        for count, right in ((0, False), (1, True), (2, True), (399, True), (400, True), (401, False)):
            self.assertIs(is_network((2, ((0, 1, 1),) * count)), right, count)

    def test_room(self):
        for room, right in ((-1, False), (0, False), (1, True), (2, True), (1000, True), (1001, False)):
            self.assertIs(is_network((2, ((0, 1, 1), (1, 0, room)))), right, room)

    def test_nodes_of_channels(self):
        for n in (2, 3, 64):
            for u in range(-1, n + 2):
                for v in (-1, 0, 1, n - 1, n, n + 1):
                    right = 0 <= u < n and 0 <= v < n and u != v
                    self.assertIs(is_network((n, ((0, 1, 1), (u, v, 1)))), right, (n, u, v))

    def test_bools_are_no_integers(self):
        for channel in ((False, 1, 1), (0, True, 1), (0, 1, True), (True, 0, 1), (1, False, 1), (False, True, True)):
            self.no(is_network((2, (channel,))))
            self.no(is_network((2, ((0, 1, 1), channel))))
        self.no(is_network((True, ((0, 1, 1),))))

    def test_other_lengths(self):
        channel = (0, 1, 1)
        for value in ((), (2,), (2, (channel,), ()), (2, (channel,), (((), (0,)), ((), ()))), (2, channel)):
            self.no(is_network(value))
        for wrong in ((), (0,), (0, 1), (0, 1, 1, 1), ((0, 1, 1),), (((0, 1, 1),),)):
            self.no(is_network((2, (wrong,))))
            self.no(is_network((2, (channel, wrong))))
            self.no(is_network((2, (wrong, channel))))

    def test_other_kinds_in_each_place(self):
        network = (3, ((0, 1, 5), (1, 2, 1), (2, 0, 9)))
        self.yes(is_network(network))
        for path in paths_of(network):
            for wrong in WRONG_KINDS + WRONG_INTEGERS + ((0, 1), 7777):
                self.no(is_network(put_at(network, path, wrong)))

    def test_any_values(self):
        for value in WRONG_KINDS + WRONG_INTEGERS + (2, "ab", ("ab", "cd"), (2, "abc"), (2, ("abc",)), (2, None)):
            self.no(is_network(value))
        for levels in (1, 2, 3, 4, 79, 80):
            self.no(is_network(deep(levels)))
            self.no(is_network((2, deep(levels))))
            self.no(is_network((2, ((0, 1, deep(levels)),))))
        self.no(is_network(PAIR))
        self.no(is_network(PAIR[0][1]))
        self.no(is_network(PAIR[1]))


class IsTableTest(ValueTest):
    def test_tables_with_and_without_dead_ends(self):
        for fabric in FABRICS + (greatest(),):
            self.yes(is_table(*fabric))
        for seed in range(60):
            network = random_network(seed)
            self.yes(is_table(network, random_table(network, seed)))
        self.yes(is_table(RING3[0], table_of(3, {(0, 2): (0,)})))

    def test_rows_too_many_or_too_few(self):
        network, table = RING3
        self.no(is_table(network, table + (((), (), ()),)))
        self.no(is_table(network, table[:2]))
        self.no(is_table(network, ()))
        self.no(is_table((4, network[1]), table))
        self.no(is_table((2, ((0, 1, 1),)), table))

    def test_columns_too_many_or_too_few(self):
        network, table = RING3
        for u in range(3):
            self.no(is_table(network, put_at(table, (u,), table[u] + ((),))))
            self.no(is_table(network, put_at(table, (u,), table[u][:2])))
            self.no(is_table(network, put_at(table, (u,), ())))

    def test_options_of_another_source(self):
        network, table = RING3
        for u in range(3):
            for d in range(3):
                for c in range(3):
                    right = u != d and c == u
                    self.assertIs(is_table(network, put_at(table, (u, d), (c,))), right, (u, d, c))
        # A channel that ends at the node is no option there.
        self.no(is_table(*put_at(DOUBLE, (1, 0, 1), (2,))))
        self.no(is_table(*put_at(DOUBLE, (1, 0, 1), (0, 2))))
        self.no(is_table(*put_at(DOUBLE, (1, 0, 1), (0, 1, 2))))

    def test_options_at_the_goal(self):
        for u in range(3):
            self.no(is_table(RING3[0], put_at(RING3[1], (u, u), (u,))))
            for wrong in WRONG_KINDS + ((0,), (2,), 0, ((),)):
                self.no(is_table(RING3[0], put_at(RING3[1], (u, u), wrong)))

    def test_options_that_are_no_channels_or_not_ascending(self):
        for wrong in ((1, 0), (0, 0), (1, 1), (0, 1, 1), (0, 0, 1), (0, 1, 0), (3,), (0, 3), (-1,), (-3,), (-1, 0), (0, 400)):
            self.no(is_table(*put_at(DOUBLE, (1, 0, 1), wrong)))
        for right in ((), (0,), (1,), (0, 1)):
            self.yes(is_table(*put_at(DOUBLE, (1, 0, 1), right)))
        # The last channel has the source, so the index -1 would be taken for it.
        self.no(is_table((2, ((0, 1, 1),)), (((), (-1,)), ((), ()))))

    def test_bools_are_no_options(self):
        self.no(is_table(*put_at(DOUBLE, (1, 0, 1), (False, 1))))
        self.no(is_table(*put_at(DOUBLE, (1, 0, 1), (0, True))))
        self.no(is_table(*put_at(DOUBLE, (1, 0, 1), (True,))))
        self.no(is_table(*put_at(DOUBLE, (1, 0, 1), (False,))))

    def test_other_kinds_in_each_place(self):
        network, table = MIXED
        for path in paths_of(table):
            for wrong in WRONG_KINDS + WRONG_INTEGERS + (6, 7, 400, (0, 1, 2, 3, 4, 5)):
                self.no(is_table(network, put_at(table, path, wrong)))

    def test_any_values(self):
        for network in (PAIR[0], RING3[0], DOUBLE_NETWORK):
            for value in WRONG_KINDS + WRONG_INTEGERS + (network, network[1], (network, ()), "abc", ("ab", "cd"), ("abc",) * 3):
                self.no(is_table(network, value))
            for levels in (2, 3, 4, 78, 80):
                self.no(is_table(network, deep(levels)))
                self.no(is_table(network, (deep(levels),) * network[0]))
                self.no(is_table(network, ((deep(levels),) * network[0],) * network[0]))

    def test_very_long_options(self):
        self.no(is_table(*put_at(DOUBLE, (1, 0, 1), (0,) * 10 ** 6)))
        self.no(is_table(*put_at(DOUBLE, (1, 0, 1), tuple(range(10 ** 6)))))


class IsFabricTest(ValueTest):
    def test_fabrics(self):
        for fabric in FABRICS + (greatest(),):
            self.yes(is_fabric(fabric))

    def test_dead_ends(self):
        for fabric in (RING3, RING5, CHAIN4):
            network, table = fabric
            n = network[0]
            for u in range(n):
                for d in range(n):
                    cut = (network, put_at(table, (u, d), ()))
                    self.yes(is_table(*cut))
                    self.assertIs(is_fabric(cut), not plain_dead_ends(*cut))
        for seed in range(100):
            network = random_network(seed)
            table = random_table(network, seed)
            self.assertIs(is_fabric((network, table)), not plain_dead_ends(network, table))

    def test_a_network_or_a_table_that_is_none(self):
        for value in ((PAIR[0], RING3[1]), (RING3[0], PAIR[1]), (PAIR[1], PAIR[0]), (PAIR[0], PAIR[0])):
            self.no(is_fabric(value))
        wide = ((65, tuple((u, (u + 1) % 65, 1) for u in range(65))), ring(65)[1])
        self.no(is_fabric(wide))
        self.no(is_fabric(put_at(RING3, (0, 1, 2, 2), 1001)))
        self.no(is_fabric(put_at(RING3, (0, 1, 2, 2), 0)))

    def test_other_lengths_and_kinds(self):
        self.no(is_fabric(RING3 + ((),)))
        self.no(is_fabric(RING3[:1]))
        self.no(is_fabric(()))
        for path in paths_of(RING3):
            for wrong in WRONG_KINDS + WRONG_INTEGERS:
                self.no(is_fabric(put_at(RING3, path, wrong)))
        for value in WRONG_KINDS + WRONG_INTEGERS:
            self.no(is_fabric(value))


class DeadEndsTest(unittest.TestCase):
    def test_fabrics_have_none(self):
        for fabric in FABRICS + (greatest(),):
            self.assertEqual(dead_ends(*fabric), [])

    def test_an_option_that_ends_at_its_goal_is_none(self):
        self.assertEqual(dead_ends(RING3[0], table_of(3, {(0, 1): (0,), (1, 2): (1,), (2, 0): (2,)})), [])

    def test_an_option_whose_target_has_none(self):
        self.assertEqual(dead_ends(RING3[0], table_of(3, {(0, 2): (0,)})), [(0, 2, 0)])
        self.assertEqual(dead_ends(RING3[0], table_of(3, {(0, 2): (0,), (1, 2): (1,)})), [])
        # Only the last of the row is a dead end, as long as it is there.
        self.assertEqual(dead_ends(RING5[0], table_of(5, {(0, 4): (0,), (1, 4): (1,)})), [(1, 4, 1)])

    def test_several_channels_with_the_same_ends(self):
        network = (3, ((0, 1, 1), (0, 1, 1), (1, 2, 1), (0, 2, 1)))
        table = table_of(3, {(0, 2): (0, 1, 3)})
        self.assertEqual(dead_ends(network, table), [(0, 2, 0), (0, 2, 1)])
        self.assertIsInstance(dead_ends(network, table), list)

    def test_all_and_ascending(self):
        found = 0
        for seed in range(150):
            network = random_network(seed)
            table = random_table(network, seed)
            ends = dead_ends(network, table)
            self.assertEqual(ends, plain_dead_ends(network, table))
            self.assertEqual(ends, sorted(set(ends)))
            found += len(ends)
        self.assertGreater(found, 400)


class PlacementsTest(unittest.TestCase):
    def test_placements(self):
        self.assertEqual(placements(PAIR), [(0, 1), (1, 0)])
        self.assertEqual(placements(NO_OPTIONS), [])
        self.assertEqual(placements(DOUBLE), [(0, 1), (1, 1), (2, 0)])
        self.assertEqual(placements(RING3), [(0, 1), (0, 2), (1, 0), (1, 2), (2, 0), (2, 1)])
        self.assertEqual(placements(CHAIN4), [(0, 3), (1, 3), (2, 3)])
        self.assertEqual(placements(MIXED), [
            (0, 0), (0, 3), (1, 2), (1, 3), (2, 0), (2, 3), (3, 1), (3, 3), (4, 0), (4, 1), (4, 2), (5, 1), (5, 3),
        ])

    def test_placements_by_the_words(self):
        for fabric in [random_fabric(seed) for seed in range(60)] + [greatest()]:
            (n, channels), table = fabric
            plain = [(c, d) for c in range(len(channels)) for d in range(n) if c in table[channels[c][0]][d]]
            self.assertEqual(placements(fabric), plain)

    def test_options(self):
        self.assertEqual(options(PAIR, 0, 1), ())
        self.assertEqual(options(RING3, 0, 2), (1,))
        self.assertEqual(options(RING3, 2, 1), (0,))
        self.assertEqual(options(MIXED, 4, 1), (3, 5))
        self.assertEqual(options(MIXED, 5, 3), (2,))
        self.assertEqual(options(MIXED, 1, 2), ())

    def test_home_exactly_if_without_options(self):
        homes = 0
        for fabric in FABRICS + (greatest(),) + tuple(random_fabric(seed) for seed in range(60)):
            channels = fabric[0][1]
            for c, d in placements(fabric):
                home = is_home(fabric, c, d)
                self.assertIs(home, channels[c][1] == d)
                self.assertEqual(options(fabric, c, d), fabric[1][channels[c][1]][d])
                self.assertEqual(options(fabric, c, d) == (), home)
                homes += home
        self.assertGreater(homes, 100)
        self.assertIs(is_home(RING3, 0, 1), True)
        self.assertIs(is_home(RING3, 0, 2), False)


class ServedTest(unittest.TestCase):
    def test_served(self):
        self.assertEqual(served(PAIR), [(0, 1), (1, 0)])
        self.assertEqual(served(NO_OPTIONS), [])
        self.assertEqual(served(DOUBLE), [(0, 1), (1, 0)])
        self.assertEqual(served(CHAIN4), [(0, 3), (1, 3), (2, 3)])
        self.assertEqual(served(RING3), [(0, 1), (0, 2), (1, 0), (1, 2), (2, 0), (2, 1)])
        for seed in range(60):
            fabric = random_fabric(seed)
            n = fabric[0][0]
            self.assertEqual(served(fabric), [(u, d) for u in range(n) for d in range(n) if fabric[1][u][d]])

    def test_is_full(self):
        for fabric in (PAIR, RING3, RING5, ring(64), greatest()):
            self.assertIs(is_full(fabric), True)
        for fabric in (NO_OPTIONS, DOUBLE, CHAIN4, MIXED):
            self.assertIs(is_full(fabric), False)

    def test_one_pair_too_few(self):
        # The last channel into the goal serves its own source alone, if the others do not go by it.
        network = (3, ((0, 1, 1), (0, 2, 1), (1, 0, 1), (1, 2, 1), (2, 0, 1), (2, 1, 1)))
        full = table_of(3, {(0, 1): (0,), (0, 2): (1,), (1, 0): (2,), (1, 2): (3,), (2, 0): (4,), (2, 1): (5,)})
        self.assertIs(is_full((network, full)), True)
        for u in range(3):
            for d in range(3):
                if u != d:
                    self.assertIs(is_full((network, put_at(full, (u, d), ()))), False)


if __name__ == "__main__":
    unittest.main()
