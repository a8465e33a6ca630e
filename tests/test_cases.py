import itertools
import unittest

from samples import DOUBLE, FABRICS, MIXED, RING3, WRONG_INTEGERS, WRONG_KINDS, deep, greatest, paths_of, put_at, table_of
from verdict_samples import GREAT_CASES, SMALL_CASES, plain_placements, small_case, twice
from worlds import EXAMPLE, SEVERAL, small_fabric

from calmfabric.cases import case_of, case_options, case_placements, is_case
from calmfabric.networks import is_home, is_table, options, placements
from calmfabric.tables import empty_table, union, without_option

# 0 -> 1 -> 2 -> 0, a second channel 1 -> 2, and one from 0 to 2; packets are put in by more than they go on by.
NETWORK = (3, ((0, 1, 1), (1, 2, 1), (2, 0, 1), (1, 2, 4), (0, 2, 1)))
TABLE = table_of(3, {(0, 1): (0,), (0, 2): (0, 4), (1, 2): (1, 3), (1, 0): (1,), (2, 0): (2,), (2, 1): (2,)})
ONWARD = table_of(3, {(0, 1): (0,), (0, 2): (4,), (1, 2): (3,), (2, 0): (2,)})
CASE = (NETWORK, TABLE, ONWARD)


def plain_is_case(network, table, onward):
    """Whether two routing tables make a case, by the words of [6.1]."""
    n, channels = network
    for u, d in itertools.product(range(n), repeat=2):
        if not set(onward[u][d]) <= set(table[u][d]):
            return False
        for c in table[u][d]:
            if channels[c][1] != d and not onward[channels[c][1]][d]:
                return False
    return True


class IsCaseTest(unittest.TestCase):
    def test_cases(self):
        self.assertIs(is_case(CASE), True)
        for case in SMALL_CASES + GREAT_CASES:
            self.assertIs(is_case(case), True)
        self.assertGreater(len([case for case in SMALL_CASES if case[1] != case[2]]), 40)

    def test_cases_of_fabrics(self):
        for fabric in SEVERAL + (greatest(),):
            network, table = fabric
            self.assertEqual(case_of(fabric), (network, table, table))
            self.assertIs(is_case(case_of(fabric)), True)

    def test_tables_with_dead_ends_are_none(self):
        network = (3, ((0, 1, 1), (1, 2, 1)))
        table = table_of(3, {(0, 2): (0,)})
        self.assertIs(is_table(network, table), True)
        self.assertIs(is_case((network, table, table)), False)
        self.assertIs(is_case((network, table, empty_table(network))), False)
        more = table_of(3, {(0, 2): (0,), (1, 2): (1,)})
        self.assertIs(is_case((network, more, more)), True)
        self.assertIs(is_case((network, more, table)), False)
        # A packet in channel 0 goes on by channel 1; nobody comes to the node 0.
        self.assertIs(is_case((network, more, table_of(3, {(1, 2): (1,)}))), True)

    def test_an_option_more(self):
        n, channels = NETWORK
        for u, d, c in itertools.product(range(n), range(n), range(len(channels))):
            cell = tuple(sorted(set(ONWARD[u][d]) | {c}))
            onward = put_at(ONWARD, (u, d), cell)
            self.assertIs(is_case((NETWORK, TABLE, onward)), c in TABLE[u][d], (u, d, c))
        # What is an option of onward alone makes it none.
        self.assertIs(is_case((NETWORK, without_option(TABLE, 2, 0, 2), ONWARD)), False)
        self.assertIs(is_case((NETWORK, ONWARD, TABLE)), False)

    def test_an_empty_entry(self):
        for u, d in itertools.product(range(3), repeat=2):
            onward = put_at(ONWARD, (u, d), ())
            self.assertIs(is_case((NETWORK, TABLE, onward)), plain_is_case(NETWORK, TABLE, onward))
        for u, d in ((0, 1), (1, 2), (2, 0), (0, 2)):
            right = (u, d) in ((0, 2),)
            # Channel 2 leads to 0 for 1, 0 to 1 for 2, 1 to 2 for 0; none that is put leads to 0 for 2.
            self.assertIs(is_case((NETWORK, TABLE, put_at(ONWARD, (u, d), ()))), right, (u, d))
        self.assertIs(is_case((NETWORK, TABLE, empty_table(NETWORK))), False)
        self.assertIs(is_case((NETWORK, empty_table(NETWORK), empty_table(NETWORK))), True)

    def test_all_small_changes(self):
        for seed in range(40):
            network, table, onward = small_case(seed)
            for u, d in itertools.product(range(network[0]), repeat=2):
                for k in range(len(table[u][d]) + 1):
                    for cell in itertools.combinations(table[u][d], k):
                        changed = put_at(onward, (u, d), cell)
                        self.assertIs(is_case((network, table, changed)), plain_is_case(network, table, changed))
                        changed = put_at(table, (u, d), cell)
                        self.assertIs(is_case((network, changed, onward)), plain_is_case(network, changed, onward))

    def test_another_network(self):
        for network in (
            (4, NETWORK[1]), (2, NETWORK[1]), (3, NETWORK[1][:4]), (3, NETWORK[1][::-1]), (3, ()), (3,),
            (True, NETWORK[1]), None,
            put_at(NETWORK, (1, 0), (2, 1, 1)), put_at(NETWORK, (1, 0, 2), 0), put_at(NETWORK, (1, 0, 2), 1001), RING3[0],
        ):
            self.assertIs(is_case((network, TABLE, ONWARD)), False, network)
        self.assertIs(is_case((put_at(NETWORK, (1, 0, 2), 1000), TABLE, ONWARD)), True)
        # A channel that leads elsewhere, so that an option is a dead end.
        self.assertIs(is_case((put_at(NETWORK, (1, 2, 1), 1), TABLE, ONWARD)), False)

    def test_other_lengths(self):
        for value in (
            (), (NETWORK,), (NETWORK, TABLE), (NETWORK, TABLE, ONWARD, ONWARD), (CASE,), (TABLE, NETWORK, ONWARD),
            (NETWORK, TABLE[:2], ONWARD), (NETWORK, TABLE, ONWARD[:2]), (NETWORK, TABLE, ONWARD + ((),)),
            (NETWORK, TABLE, ()),
            (NETWORK, TABLE, put_at(ONWARD, (1,), ONWARD[1][:2])), (NETWORK, TABLE, put_at(ONWARD, (0, 0), (0,))),
            (NETWORK, TABLE, put_at(ONWARD, (1, 2), (3, 3))), (NETWORK, put_at(TABLE, (1, 2), (3, 1)), ONWARD),
            (NETWORK, put_at(TABLE, (1, 2), (3, 5)), ONWARD), list(CASE), (NETWORK, list(TABLE), ONWARD),
        ):
            self.assertIs(is_case(value), False, value)

    def test_other_kinds_in_each_place(self):
        for path in paths_of(CASE):
            for wrong in WRONG_KINDS + WRONG_INTEGERS:
                self.assertIs(is_case(put_at(CASE, path, wrong)), False, (path, wrong))
        for wrong in WRONG_KINDS + WRONG_INTEGERS:
            self.assertIs(is_case(wrong), False)
            self.assertIs(is_case((wrong, wrong, wrong)), False)
        self.assertIs(is_case(deep(80, CASE)), False)


class PlacementsTest(unittest.TestCase):
    def test_two_tables(self):
        self.assertEqual(case_placements(CASE), [(0, 1), (0, 2), (1, 0), (1, 2), (2, 0), (2, 1), (3, 2), (4, 2)])
        self.assertEqual(case_options(CASE, 0, 2), (3,))
        self.assertEqual(case_options(CASE, 0, 1), ())
        self.assertEqual(case_options(CASE, 1, 0), (2,))
        self.assertEqual(case_options(CASE, 2, 1), (0,))

    def test_of_fabrics(self):
        for fabric in SEVERAL + (greatest(),):
            case = case_of(fabric)
            self.assertEqual(case_placements(case), placements(fabric))
            for c, d in placements(fabric)[:500]:
                self.assertEqual(case_options(case, c, d), options(fabric, c, d))
                self.assertIs(case_options(case, c, d) == (), is_home(fabric, c, d))

    def test_of_cases(self):
        for case in SMALL_CASES:
            found = case_placements(case)
            self.assertEqual(found, plain_placements(case))
            for c, d in found:
                target = case[0][1][c][1]
                self.assertEqual(case_options(case, c, d), case[2][target][d])
                # They are empty exactly if the placement is home.
                self.assertIs(case_options(case, c, d) == (), target == d)

    def test_unions(self):
        # The union of two tables with one of them is a case, if each can go on by that one.
        fabric = small_fabric(3)
        self.assertIs(is_case((fabric[0], union(fabric[1], fabric[1]), fabric[1])), True)
        for fabric in FABRICS + (EXAMPLE, DOUBLE, MIXED):
            self.assertIs(is_case(twice(fabric)), True)


if __name__ == "__main__":
    unittest.main()
