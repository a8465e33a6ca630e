import random
import unittest

from samples import (
    CHAIN4, DOUBLE, DOUBLE_NETWORK, FABRICS, MIXED, NO_OPTIONS, PAIR, RING3, RING5, chain, greatest, plain_thinned,
    random_fabric, random_network, random_table, ring, table_of,
)

from calmfabric.networks import dead_ends, is_fabric, is_table, placements, served
from calmfabric.tables import (
    empty_table, renamed, thinned, union, with_option, without_channels, without_option,
)


def cells_of(table):
    """The options (u, d, c) of a table."""
    return {(u, d, c) for u, row in enumerate(table) for d, cell in enumerate(row) for c in cell}


class OptionTest(unittest.TestCase):
    def test_empty_table(self):
        self.assertEqual(empty_table(PAIR[0]), (((), ()), ((), ())))
        self.assertEqual(empty_table(DOUBLE_NETWORK), (((), (), ()),) * 3)
        self.assertEqual(empty_table(ring(64)[0]), (((),) * 64,) * 64)
        self.assertTrue(is_table(ring(64)[0], empty_table(ring(64)[0])))

    def test_with_option_that_is_not_there(self):
        table = table_of(3, {(0, 1): (3, 7), (2, 1): (9,)})
        for c, cell in ((1, (1, 3, 7)), (5, (3, 5, 7)), (8, (3, 7, 8)), (0, (0, 3, 7))):
            self.assertEqual(with_option(table, 0, 1, c), table_of(3, {(0, 1): cell, (2, 1): (9,)}))
        self.assertEqual(with_option(table, 2, 0, 9), table_of(3, {(0, 1): (3, 7), (2, 0): (9,), (2, 1): (9,)}))
        self.assertEqual(with_option(table, 0, 2, 3), table_of(3, {(0, 1): (3, 7), (0, 2): (3,), (2, 1): (9,)}))

    def test_with_option_that_is_there(self):
        for fabric in FABRICS:
            for u, d, c in cells_of(fabric[1]):
                self.assertEqual(with_option(fabric[1], u, d, c), fabric[1])

    def test_without_option_that_is_there(self):
        table = table_of(3, {(0, 1): (1, 3, 7), (0, 2): (3,), (2, 1): (9,)})
        for c, cell in ((1, (3, 7)), (3, (1, 7)), (7, (1, 3))):
            self.assertEqual(without_option(table, 0, 1, c), table_of(3, {(0, 1): cell, (0, 2): (3,), (2, 1): (9,)}))
        self.assertEqual(without_option(table, 2, 1, 9), table_of(3, {(0, 1): (1, 3, 7), (0, 2): (3,)}))

    def test_without_option_that_is_not_there(self):
        table = table_of(3, {(0, 1): (1, 3, 7), (2, 1): (9,)})
        for u, d, c in ((0, 1, 0), (0, 1, 2), (0, 1, 8), (0, 2, 1), (1, 0, 1), (2, 1, 1)):
            self.assertEqual(without_option(table, u, d, c), table)

    def test_dead_ends_are_not_looked_at(self):
        table = with_option(empty_table(RING3[0]), 0, 2, 0)
        self.assertEqual(table, (((), (), (0,)), ((), (), ()), ((), (), ())))
        self.assertEqual(without_option(RING3[1], 1, 2, 1), table_of(3, {
            (0, 1): (0,), (0, 2): (0,), (1, 0): (1,), (2, 0): (2,), (2, 1): (2,),
        }))

    def test_there_and_back(self):
        for fabric in FABRICS:
            (n, channels), table = fabric
            for d in range(n):
                for c, (u, _, _) in enumerate(channels):
                    if u != d:
                        more = with_option(table, u, d, c)
                        less = without_option(table, u, d, c)
                        self.assertTrue(is_table(fabric[0], more) and is_table(fabric[0], less))
                        self.assertEqual(cells_of(more), cells_of(table) | {(u, d, c)})
                        self.assertEqual(cells_of(less), cells_of(table) - {(u, d, c)})


class ThinnedTest(unittest.TestCase):
    def test_nothing_to_take_out(self):
        for fabric in FABRICS + (greatest(), (RING5[0], empty_table(RING5[0]))):
            self.assertEqual(thinned(*fabric), fabric[1])
        # A ring of options that never comes home has no dead end.
        network = (4, ((0, 1, 1), (1, 2, 1), (2, 0, 1)))
        round_and_round = table_of(4, {(0, 3): (0,), (1, 3): (1,), (2, 3): (2,)})
        self.assertEqual(thinned(network, round_and_round), round_and_round)

    def test_one_makes_the_next(self):
        for n in (3, 4, 10, 64):
            network, table = chain(n)
            broken = without_option(table, n - 2, n - 1, n - 2)
            self.assertEqual(len(dead_ends(network, broken)), 1)
            self.assertEqual(thinned(network, broken), empty_table(network))
            middle = without_option(table, n // 2, n - 1, n // 2)
            left = {(u, n - 1): (u,) for u in range(n // 2 + 1, n - 1)}
            self.assertEqual(thinned(network, middle), table_of(n, left))

    def test_around_rings(self):
        for n in (3, 5, 64):
            network, table = ring(n)
            broken = without_option(table, n - 1, 0, n - 1)
            self.assertEqual(thinned(network, broken), tuple(
                tuple(() if d == 0 else cell for d, cell in enumerate(row)) for row in table
            ))
            half = without_option(table, n // 2, 0, n // 2)
            self.assertEqual(thinned(network, half), tuple(
                tuple(() if d == 0 and u <= n // 2 else cell for d, cell in enumerate(row))
                for u, row in enumerate(table)
            ))

    def test_ring_with_a_way_out_of_it(self):
        # 0 -> 1 -> 2 -> 0 and 0 -> 3: without the last channel the ring for 3 stays, as none of it is a dead end.
        network = (4, ((0, 1, 1), (1, 2, 1), (2, 0, 1), (0, 3, 1)))
        table = table_of(4, {(0, 3): (0, 3), (1, 3): (1,), (2, 3): (2,)})
        self.assertEqual(thinned(network, table), table)
        self.assertEqual(thinned(network, without_option(table, 0, 3, 3)), without_option(table, 0, 3, 3))
        self.assertEqual(thinned(network, without_option(table, 1, 3, 1)), table_of(4, {(0, 3): (3,), (2, 3): (2,)}))

    def test_one_option_of_several_is_taken_out(self):
        network = (3, ((0, 1, 1), (0, 1, 1), (0, 2, 1), (1, 2, 1)))
        table = table_of(3, {(0, 1): (0, 1), (0, 2): (0, 1, 2)})
        self.assertEqual(thinned(network, table), table_of(3, {(0, 1): (0, 1), (0, 2): (2,)}))

    def test_the_order_does_not_matter(self):
        changed = 0
        for seed in range(150):
            network = random_network(seed)
            table = random_table(network, seed)
            result = thinned(network, table)
            rng = random.Random(seed)
            for choose in (lambda ends: ends[0], lambda ends: ends[-1], rng.choice):
                self.assertEqual(result, plain_thinned(network, table, choose))
            self.assertTrue(is_fabric((network, result)))
            changed += result != table
        self.assertGreater(changed, 80)

    def test_it_is_the_greatest(self):
        # Every table without dead ends that has only options of the given one is within the result.
        for seed in range(40):
            network = random_network(seed)
            table = random_table(network, seed)
            rng = random.Random(seed)
            for _ in range(10):
                lesser = table
                for u, d, c in sorted(cells_of(table)):
                    if rng.random() < 0.2:
                        lesser = without_option(lesser, u, d, c)
                inner = plain_thinned(network, lesser, lambda ends: ends[0])
                self.assertTrue(cells_of(inner) <= cells_of(thinned(network, table)))

    def test_great_tables(self):
        network, table = greatest()
        for u in range(63):
            for c in table[u][63]:
                if network[1][c][1] == 63:
                    table = without_option(table, u, 63, c)
        self.assertEqual(thinned(network, table)[5][6], table[5][6])
        cut = without_channels((network, table), tuple(range(64, 400)))
        self.assertEqual(dead_ends(*cut), [])
        # By the ring alone nobody comes to 63 any more; all other goals are served.
        self.assertEqual(len(served(cut)), 64 * 63 - 63)


class WithoutChannelsTest(unittest.TestCase):
    def test_no_channel(self):
        for fabric in FABRICS + (greatest(),):
            self.assertEqual(without_channels(fabric, ()), fabric)

    def test_all_channels(self):
        for fabric in FABRICS + (greatest(),):
            network = fabric[0]
            every = tuple(range(len(network[1])))
            self.assertEqual(without_channels(fabric, every), (network, empty_table(network)))

    def test_some_channels(self):
        self.assertEqual(without_channels(DOUBLE, (0,)), (DOUBLE_NETWORK, table_of(3, {(0, 1): (1,), (1, 0): (2,)})))
        self.assertEqual(without_channels(DOUBLE, (0, 1)), (DOUBLE_NETWORK, table_of(3, {(1, 0): (2,)})))
        self.assertEqual(without_channels(DOUBLE, (2,)), (DOUBLE_NETWORK, table_of(3, {(0, 1): (0, 1)})))
        self.assertEqual(without_channels(CHAIN4, (2,)), (CHAIN4[0], empty_table(CHAIN4[0])))
        self.assertEqual(without_channels(CHAIN4, (0,)), (CHAIN4[0], table_of(4, {(1, 3): (1,), (2, 3): (2,)})))
        self.assertEqual(without_channels(NO_OPTIONS, (0,)), NO_OPTIONS)
        self.assertEqual(without_channels(RING3, (1,)), (RING3[0], table_of(3, {
            (0, 1): (0,), (2, 0): (2,), (2, 1): (2,),
        })))

    def test_against_the_plain_way(self):
        for seed in range(80):
            fabric = random_fabric(seed)
            network, table = fabric
            rng = random.Random(seed)
            every = range(len(network[1]))
            gone = tuple(sorted(rng.sample(every, rng.randint(0, len(every)))))
            left = tuple(tuple(tuple(c for c in cell if c not in gone) for cell in row) for row in table)
            result = without_channels(fabric, gone)
            self.assertEqual(result, (network, plain_thinned(network, left, lambda ends: ends[-1])))
            self.assertTrue(is_fabric(result))
            self.assertEqual(without_channels(fabric, gone[::-1]), result)
            for c, _ in placements(result):
                self.assertNotIn(c, gone)


class UnionTest(unittest.TestCase):
    def test_common_options(self):
        table = table_of(3, {(0, 1): (0, 2, 5), (1, 2): (3,), (2, 1): (7,)})
        other = table_of(3, {(0, 1): (1, 2, 5, 6), (1, 2): (3,), (2, 0): (4,)})
        both = table_of(3, {(0, 1): (0, 1, 2, 5, 6), (1, 2): (3,), (2, 0): (4,), (2, 1): (7,)})
        self.assertEqual(union(table, other), both)
        self.assertEqual(union(other, table), both)

    def test_with_itself_and_with_nothing(self):
        for network, table in FABRICS + (greatest(),):
            self.assertEqual(union(table, table), table)
            self.assertEqual(union(table, empty_table(network)), table)
            self.assertEqual(union(empty_table(network), table), table)

    def test_options_of_both_without_dead_ends(self):
        for seed in range(60):
            network = random_network(seed)
            table = thinned(network, random_table(network, seed))
            other = thinned(network, random_table(network, seed + 1000))
            both = union(table, other)
            self.assertEqual(cells_of(both), cells_of(table) | cells_of(other))
            self.assertTrue(is_fabric((network, both)))

    def test_dead_ends_stay(self):
        for seed in range(60):
            network = random_network(seed)
            table = random_table(network, seed)
            other = random_table(network, seed + 1000)
            self.assertEqual(cells_of(union(table, other)), cells_of(table) | cells_of(other))
            self.assertTrue(is_table(network, union(table, other)))


class RenamedTest(unittest.TestCase):
    def test_nodes(self):
        self.assertEqual(
            renamed(CHAIN4, (2, 0, 3, 1), (0, 1, 2)),
            ((4, ((2, 0, 1), (0, 3, 1), (3, 1, 1))), table_of(4, {(2, 1): (0,), (0, 1): (1,), (3, 1): (2,)})),
        )

    def test_channels_and_their_rooms(self):
        self.assertEqual(
            renamed(DOUBLE, (0, 1, 2), (1, 2, 0)),
            ((3, ((1, 0, 1), (0, 1, 2), (0, 1, 1000))), table_of(3, {(0, 1): (1, 2), (1, 0): (0,)})),
        )

    def test_both(self):
        self.assertEqual(
            renamed(DOUBLE, (2, 0, 1), (2, 0, 1)),
            ((3, ((2, 0, 1000), (0, 2, 1), (2, 0, 2))), table_of(3, {(2, 0): (0, 2), (0, 2): (1,)})),
        )

    def test_nothing(self):
        for fabric in FABRICS + (greatest(),):
            (n, channels), _ = fabric
            self.assertEqual(renamed(fabric, tuple(range(n)), tuple(range(len(channels)))), fabric)

    def test_by_the_words_and_back_again(self):
        fabrics = FABRICS + (greatest(),) + tuple(random_fabric(seed) for seed in range(60))
        turned = 0
        for seed, fabric in enumerate(fabrics):
            (n, channels), table = fabric
            rng = random.Random(seed)
            nodes = tuple(rng.sample(range(n), n))
            numbers = tuple(rng.sample(range(len(channels)), len(channels)))
            result = renamed(fabric, nodes, numbers)
            self.assertTrue(is_fabric(result))
            for c, (u, v, room) in enumerate(channels):
                self.assertEqual(result[0][1][numbers[c]], (nodes[u], nodes[v], room))
            for u in range(n):
                for d in range(n):
                    cell = tuple(numbers[c] for c in table[u][d])
                    self.assertEqual(result[1][nodes[u]][nodes[d]], tuple(sorted(cell)))
                    turned += cell != tuple(sorted(cell))
            back = tuple(nodes.index(u) for u in range(n))
            numbers_back = tuple(numbers.index(c) for c in range(len(channels)))
            self.assertEqual(renamed(result, back, numbers_back), fabric)
        self.assertGreater(turned, 100)


if __name__ == "__main__":
    unittest.main()
