import itertools
import random
import unittest

from samples import DOUBLE, MIXED, PAIR, RING3, WRONG_INTEGERS, WRONG_KINDS, deep, paths_of, put_at, table_of
from worlds import small_fabric

from calmfabric.edits import MAX_EDITS, are_edits, edited, subsets
from calmfabric.networks import is_table

NETWORK = MIXED[0]
EDITS = (("add", 1, 2, 2), ("drop", 0, 3, 1), ("add", 0, 2, 3), ("drop", 3, 1, 4))


def plain_edited(table, edits, subset):
    cells = {(u, d): set(cell) for u, row in enumerate(table) for d, cell in enumerate(row)}
    for k in subset:
        word, u, d, c = edits[k]
        if word == "add":
            cells[u, d].add(c)
        else:
            cells[u, d].discard(c)
    return table_of(len(table), {pair: sorted(cell) for pair, cell in cells.items()})


def drawn_edits(network, seed, count):
    """Edits of few options, so that several are of the same one."""
    rng = random.Random(seed)
    n, channels = network
    goals = [rng.randrange(n) for _ in range(2)]
    found = []
    while len(found) < count:
        c, d = rng.randrange(len(channels)), rng.choice(goals)
        if channels[c][0] != d:
            found.append((rng.choice(("add", "drop")), channels[c][0], d, c))
    return tuple(found)


class AreEditsTest(unittest.TestCase):
    def test_none_up_to_ten(self):
        self.assertEqual(MAX_EDITS, 10)
        for fabric in (PAIR, DOUBLE, RING3, MIXED) + tuple(small_fabric(seed) for seed in range(20)):
            for count in range(11):
                for seed in range(3):
                    self.assertIs(are_edits(fabric[0], drawn_edits(fabric[0], seed, count)), True)
            self.assertIs(are_edits(fabric[0], drawn_edits(fabric[0], 5, 11)), False)
            self.assertIs(are_edits(fabric[0], drawn_edits(fabric[0], 5, 12)), False)
        self.assertIs(are_edits(PAIR[0], (("add", 0, 1, 0),) * 10), True)
        self.assertIs(are_edits(PAIR[0], (("add", 0, 1, 0),) * 11), False)
        self.assertIs(are_edits(PAIR[0], (("add", 0, 1, 0),) * 1000), False)

    def test_each_number(self):
        n, channels = NETWORK
        for word in ("add", "drop"):
            for u, d, c in itertools.product(range(-1, n + 2), range(-1, n + 2), range(-1, len(channels) + 2)):
                right = 0 <= u < n and 0 <= d < n and u != d and 0 <= c < len(channels) and channels[c][0] == u
                self.assertIs(are_edits(NETWORK, ((word, u, d, c),)), right, (word, u, d, c))
                self.assertIs(are_edits(NETWORK, EDITS + ((word, u, d, c),)), right)
                self.assertIs(are_edits(NETWORK, ((word, u, d, c),) + EDITS), right)

    def test_other_words(self):
        for word in ("Add", "ADD", "adds", "", "drop ", " add", "put", "end", 0, None, True, ("add",), deep(78)):
            self.assertIs(are_edits(NETWORK, put_at(EDITS, (0, 0), word)), False, word)
        self.assertIs(are_edits(NETWORK, put_at(EDITS, (0, 0), "drop")), True)
        self.assertIs(are_edits(NETWORK, EDITS), True)
        self.assertIs(are_edits(NETWORK, ()), True)

    def test_true_is_no_number(self):
        network = (2, ((0, 1, 1), (1, 0, 1)))
        self.assertIs(are_edits(network, (("add", 0, 1, 0), ("drop", 1, 0, 1))), True)
        for path, wrong in (((0, 1), False), ((0, 2), True), ((0, 3), False), ((1, 1), True), ((1, 2), False),
                ((1, 3), True)):
            self.assertIs(are_edits(network, put_at((("add", 0, 1, 0), ("drop", 1, 0, 1)), path, wrong)), False)

    def test_other_lengths_and_kinds(self):
        for path in paths_of(EDITS):
            for wrong in WRONG_KINDS + WRONG_INTEGERS:
                self.assertIs(are_edits(NETWORK, put_at(EDITS, path, wrong)), False, (path, wrong))
        for value in (
            EDITS[0], (EDITS,), list(EDITS), ((),), (("add",),), (("add", 1, 2),), (("add", 1, 2, 2, 0),),
            (("add", 1, 2, 2, 2),),
            ((1, 2, 2),), ((1, "add", 2, 2),), (("add", (1, 2, 2)),), (["add", 1, 2, 2],), ("add", 1, 2, 2), deep(80),
            deep(80, EDITS),
        ):
            self.assertIs(are_edits(NETWORK, value), False, value)


class SubsetsTest(unittest.TestCase):
    def test_all_of_them_in_order(self):
        for count in range(11):
            found = subsets(count)
            self.assertIsInstance(found, list)
            self.assertEqual(len(found), 2 ** count)
            everything = [tuple(k for k in range(count) if bits >> k & 1) for bits in range(2 ** count)]
            self.assertEqual(found, sorted(everything, key=lambda some: (len(some), some)))

    def test_by_hand(self):
        self.assertEqual(subsets(0), [()])
        self.assertEqual(subsets(1), [(), (0,)])
        self.assertEqual(subsets(2), [(), (0,), (1,), (0, 1)])
        self.assertEqual(subsets(3), [(), (0,), (1,), (2,), (0, 1), (0, 2), (1, 2), (0, 1, 2)])

    def test_a_new_list_each_time(self):
        subsets(2).clear()
        self.assertEqual(len(subsets(2)), 4)


class EditedTest(unittest.TestCase):
    def test_drawn_edits(self):
        several = 0
        for seed in range(60):
            network, table = small_fabric(seed)
            edits = drawn_edits(network, seed, 5)
            several += len({edit[1:] for edit in edits}) < 5
            for subset in subsets(5):
                now = edited(table, edits, subset)
                self.assertEqual(now, plain_edited(table, edits, subset))
                self.assertIs(is_table(network, now), True)
        self.assertGreater(several, 10)

    def test_the_empty_subset(self):
        for network, table in (PAIR, DOUBLE, RING3, MIXED):
            self.assertEqual(edited(table, drawn_edits(network, 1, 6), ()), table)
            self.assertEqual(edited(table, (), ()), table)

    def test_options_that_are_there_and_that_are_not(self):
        table = PAIR[1]
        self.assertEqual(edited(table, (("add", 0, 1, 0),), (0,)), table)
        self.assertEqual(edited(table, (("drop", 0, 1, 0),), (0,)), (((), ()), ((1,), ())))
        empty = (((), ()), ((), ()))
        self.assertEqual(edited(empty, (("drop", 0, 1, 0),), (0,)), empty)
        self.assertEqual(edited(empty, (("add", 0, 1, 0),), (0,)), (((), (0,)), ((), ())))
        self.assertEqual(edited(DOUBLE[1], (("drop", 0, 1, 0),), (0,))[0][1], (1,))
        self.assertEqual(edited((((), (1,), ()),) + DOUBLE[1][1:], (("add", 0, 1, 0),), (0,)), DOUBLE[1])

    def test_edits_of_one_option(self):
        add, drop = ("add", 0, 1, 0), ("drop", 0, 1, 0)
        without = (((), ()), ((1,), ()))
        for edits, subset, there in (
            ((add, drop), (0,), True), ((add, drop), (1,), False), ((add, drop), (0, 1), False),
            ((drop, add), (0, 1), True),
            ((drop, add), (0,), False), ((drop, add, drop), (0, 1, 2), False), ((drop, add, drop), (0, 1), True),
            ((drop, drop), (0, 1), False), ((add, add), (0, 1), True), ((drop, add, drop), (1, 2), False),
        ):
            self.assertEqual(edited(PAIR[1], edits, subset), PAIR[1] if there else without)
            self.assertEqual(edited(without, edits, subset), PAIR[1] if there else without)


if __name__ == "__main__":
    unittest.main()
