"""Which statements are sound in form ([12.2])."""

import unittest

from change_samples import CHANGE, NETWORK, NEW, OLD
from check_samples import FULL, OPEN, RING_EDITS, WORDS, plain_is_right, plain_is_sound, samples, variants
from samples import (
    CHAIN4, DOUBLE, MIXED, PAIR, RING3, WRONG_INTEGERS, WRONG_KINDS, deep, greatest, paths_of, put_at,
    table_of,
)

from calmfabric.checker import check, is_sound
from calmfabric.tables import empty_table
from calmfabric.verdicts import least_ranks
from calmfabric.cases import case_of


class FormTest(unittest.TestCase):
    def no(self, statement, certificate=()):
        self.assertIs(is_sound(statement), False, statement)
        for value in (certificate, (), None, 0, (0,), deep(80)):
            self.assertIs(check(statement, value), False, statement)

    def test_all_words(self):
        seen = {}
        for statement, certificate in samples():
            self.assertIs(is_sound(statement), True)
            self.assertIs(plain_is_sound(statement), True)
            self.assertIs(check(statement, certificate), True)
            seen[statement[0]] = seen.get(statement[0], 0) + 1
        self.assertEqual(set(seen), set(WORDS))

    def test_one_thing_changed(self):
        counts = {}
        for statement, certificate in samples():
            for value in variants(statement):
                right = plain_is_sound(value)
                self.assertIs(is_sound(value), right, value)
                told = right and plain_is_right(value, certificate)
                self.assertIs(check(value, certificate), told, value)
                key = (statement[0], right)
                counts[key] = counts.get(key, 0) + 1
        for word in WORDS:
            self.assertGreater(counts[word, False], 200)
            self.assertGreater(counts[word, True], 3)

    def test_other_kinds_in_each_place(self):
        for statement, certificate in samples():
            if len(statement[1][1]) <= 4:
                for path in paths_of(statement):
                    for wrong in WRONG_KINDS + WRONG_INTEGERS:
                        value = put_at(statement, path, wrong)
                        if path[:1] == (3,) and wrong == 10 ** 3000 and plain_is_sound(value):
                            # A count of packets may be as great as it likes.
                            self.assertEqual(path, (3, 0))
                        else:
                            self.assertIs(is_sound(value), False, (path, wrong))
                            self.assertIs(check(value, certificate), False)

    def test_words(self):
        ranks = (0, 0)
        for word in ("Calm", "CALM", "calm ", " calm", "", "jam", "worms", "worms  calm", "change", "cal", "c", 0, None,
                True):
            self.no((word,) + PAIR, ranks)
        for word in (("calm",), deep(79), deep(79, "calm"), ("calm",) + PAIR, 10 ** 3000):
            self.no((word,) + PAIR, ranks)
        self.assertIs(check(("calm",) + PAIR, ranks), True)

    def test_lengths(self):
        for statement, certificate in samples():
            for value in (statement[:-1], statement + ((),), statement + (1,), statement[:1], (), statement[1:],
                    (statement,)):
                self.no(value, certificate)
            self.no(list(statement), certificate)
            self.no(deep(80, statement), certificate)
        for value in WRONG_KINDS + WRONG_INTEGERS + WORDS:
            self.no(value)
            self.no((value,))

    def test_networks(self):
        ranks = (2, 1, 0)
        network, table = (3, ((0, 1, 1), (1, 2, 1), (2, 0, 1))), put_at(RING3[1], (2, 1), ())
        self.assertIs(check(("calm", network, table), ranks), True)
        for value in (
            (1, network[1]), (0, network[1]), (65, network[1]), (3, ()), (3, network[1][:2]), (4, network[1]),
            (2, network[1]),
            (3, ((0, 0, 1),) + network[1][1:]), (3, ((0, 3, 1),) + network[1][1:]), (3, ((-1, 1, 1),) + network[1][1:]),
            put_at(network, (1, 0, 2), 0), put_at(network, (1, 0, 2), 1001), put_at(network, (1, 0, 2), True),
            put_at(network, (1, 0), (0, 1)), put_at(network, (1, 0), (0, 1, 1, 1)), (True, network[1]), (3,),
            (3, network[1], 0),
        ):
            self.no(("calm", value, table), ranks)
        self.assertIs(check(("calm", put_at(network, (1, 0, 2), 1000), table), ranks), True)
        # One more channel, which no table uses.
        for channel, right in (
            ((0, 2, 1), True), ((2, 0, 1000), True), ((3, 0, 1), False), ((0, 3, 1), False), ((-1, 0, 1), False),
            ((0, -1, 1), False),
            ((1, 1, 1), False), ((0, 2, 0), False), ((0, 2, 1001), False), ((0, 2), False), ((0, 2, 1, 1), False),
            ((), False),
            ((False, 2, 1), False), ((0, True, 1), False), ((0, 2, True), False), (None, False), ("021", False),
        ):
            self.assertIs(check(("calm", (3, network[1] + (channel,)), table), ranks + (0,)), right, channel)

    def test_the_greatest_network(self):
        network, table = greatest()
        self.assertIs(is_sound(("calm", network, table)), True)
        more = (64, network[1] + network[1][:1])
        self.no(("calm", more, empty_table(more)), (0,) * 401)
        self.assertIs(check(("calm", network, empty_table(network)), (0,) * 400), True)
        self.assertIs(check(("change calm", network, table, empty_table(network)), (0,) * 400), False)
        self.assertIs(is_sound(("change calm", network, empty_table(network), table)), True)
        self.no(("calm", (65, network[1]), empty_table((65, ()))), (0,) * 400)

    def test_tables(self):
        network, table = PAIR
        for value in (
            (), table[:1], table + ((),), put_at(table, (0,), ((),)), put_at(table, (0,), ((), (0,), ())),
            put_at(table, (0, 0), (0,)), put_at(table, (0, 1), (1,)), put_at(table, (0, 1), (0, 0)),
            put_at(table, (0, 1), (2,)),
            put_at(table, (0, 1), (-2,)), put_at(table, (0, 1), 0), put_at(table, (0, 1), (False,)),
            put_at(table, (1, 0), (True,)),
        ):
            for word in ("calm", "jams"):
                self.no((word, network, value), (0, 0))
            for more in (("worms calm", network, value, 1), ("firm", network, value, 1), ("least", network, value, ())):
                self.no(more, (0, 0))
            self.no(("blocked", network, value, (0, ((), ())), 0))
            self.no(("change calm", network, value, table), (0, 0))
            self.no(("change calm", network, table, value), (0, 0))
        network, table = DOUBLE
        self.no(("calm", network, put_at(table, (0, 1), (1, 0))), (0, 0, 0))
        self.assertIs(check(("calm", network, table), (0, 0, 0)), True)

    def test_tables_with_dead_ends(self):
        network = (3, ((0, 1, 1), (1, 2, 1)))
        table = table_of(3, {(0, 2): (0,)})
        right = table_of(3, {(0, 2): (0,), (1, 2): (1,)})
        state = (1, (((0, 2),), ()))
        for more in (
            ("calm",), ("jams",), ("worms calm", 1), ("worms jam", 1), ("firm", 1), ("weak", 1), ("least", ()),
            ("blocked", state, 0), ("frees", state, 0),
        ):
            self.no((more[0], network, table) + more[1:], (1, 0))
            self.assertIs(is_sound((more[0], network, right) + more[1:]), True)

    def test_states(self):
        state = FULL
        for word in ("blocked", "frees"):
            for value in (
                put_at(state, (0,), 2), put_at(state, (0,), -1), put_at(state, (1, 0, 0, 0), 1),
                put_at(state, (1, 0, 0, 0), 3),
                put_at(state, (1, 0, 0, 1), 0), put_at(state, (1, 0, 0, 1), 3), put_at(state, (1, 0), ((0, 2), (0, 1))),
                (3, state[1][:2]), (3, state[1] + ((),)), (3,), state[1], (3, state[1], 0), put_at(state, (0,), True),
                put_at(state, (1, 1, 0, 0), True), put_at(state, (1, 2, 0, 1), True), put_at(state, (1, 0, 0), (0,)),
                put_at(state, (1, 0, 0), (0, 2, 0)), put_at(state, (1, 0), (0, 2)),
                put_at((4, state[1]), (1, 0), ((0, 2), (3, 1))),
                put_at((9, state[1]), (1, 2), ((2, 1), (8, 0), (7, 1))), put_at(state, (1, 2), ((2, 1), (2, 1))),
            ):
                self.no((word,) + RING3 + (value, 0), (0, 1, 2))
            self.assertIs(is_sound((word,) + RING3 + (state, 0)), True)
            self.assertIs(is_sound((word,) + RING3 + (put_at(state, (0,), 10 ** 3000), 0)), True)

    def test_channels(self):
        state = (3, (((0, 2),), (), ((2, 1),)))
        for word in ("blocked", "frees"):
            for c, right in ((0, True), (1, False), (2, True), (3, False), (-1, False), (-3, False),
                    (10 ** 3000, False)):
                self.assertIs(is_sound((word,) + RING3 + (state, c)), right)
            for c in (False, True, None, "0", (0,), ((0, 2),)):
                self.no((word,) + RING3 + (state, c), (("go", 0, 1),))
        self.assertIs(check(("frees",) + RING3 + (state, 0), (("go", 0, 1),)), True)

    def test_longest(self):
        for word in ("worms calm", "worms jam"):
            for longest, right in (
                (0, False), (1, True), (2, True), (999999, True), (1000000, True), (1000001, False), (-1, False),
                (True, False),
                (False, False), (None, False), ("1", False), ((1,), False), (10 ** 3000, False),
            ):
                self.assertIs(is_sound((word,) + CHAIN4 + (longest,)), right, longest)
                tree = ("closed", (2, 1, 0))
                self.assertIs(check(("worms calm",) + CHAIN4 + (longest,), tree), right)

    def test_changes(self):
        self.assertIs(is_sound(("change calm",) + CHANGE), True)
        network = (3, ((0, 1, 1), (1, 2, 1), (0, 2, 1)))
        old = table_of(3, {(0, 2): (0,), (1, 2): (1,)})
        # An option of one of the tables behind which the new one has none.
        for first, second, right in (
            (old, old, True), (old, table_of(3, {(0, 2): (2,)}), False),
            (old, table_of(3, {(0, 2): (2,), (1, 2): (1,)}), True),
            (table_of(3, {(0, 2): (2,)}), old, True), (table_of(3, {(0, 2): (2,)}), table_of(3, {(0, 2): (0, 2)}),
            False),
            (empty_table(network), old, True), (old, empty_table(network), False),
            # Only with the new table it has to go on.
            (table_of(3, {(0, 2): (0,)}), old, True),
        ):
            for word in ("change calm", "change jams"):
                self.assertIs(is_sound((word, network, first, second)), right)
            self.assertIs(check(("change calm", network, first, second), (1, 0, 0)), right)
        for value in ((NETWORK, NEW), (NETWORK, OLD, NEW, NEW), (OLD, NETWORK, NEW), (NETWORK, OLD, None),
                (NETWORK, None, NEW)):
            self.no(("change calm",) + value)
            self.no(("change jams",) + value, ((0, 2), (2, 0), (5, 1)))

    def test_numbers_of_channels(self):
        for fabric in (PAIR, CHAIN4, OPEN, MIXED):
            many = len(fabric[0][1])
            for word in ("firm", "weak"):
                for k in range(-1, many + 3):
                    self.assertIs(is_sound((word,) + fabric + (k,)), 1 <= k <= many, k)
                for k in (True, False, None, "1", (1,), 10 ** 3000, -10 ** 3000):
                    self.no((word,) + fabric + (k,))

    def test_edits(self):
        ten = (("add", 0, 1, 0), ("drop", 0, 1, 0)) * 5
        self.assertIs(is_sound(("least",) + PAIR + (ten,)), True)
        self.no(("least",) + PAIR + (ten + ten[:1],))
        self.no(("least",) + PAIR + (ten * 1000,))
        self.assertIs(is_sound(("least",) + PAIR + ((),)), True)
        for edit in (
            ("put", 0, 1, 0), ("add", 0, 1), ("add", 0, 1, 0, 0), ("add", 0, 0, 0), ("add", 1, 0, 0), ("add", 0, 2, 0),
            ("add", -1, 1, 0), ("add", 2, 1, 0), ("add", 0, -1, 0), ("add", 0, 1, 2), ("add", 0, 1, -2),
            ("add", 0, 1, 1), ("add", 1, 0, -1), ("drop", 0, -2, 0),
            ("add", False, 1, 0), ("add", 0, True, 0), ("add", 0, 1, False), (None, 0, 1, 0), ("", 0, 1, 0),
            ("Add", 0, 1, 0),
            ("drop ", 0, 1, 0), (("add",), 0, 1, 0), ("add", "0", 1, 0), ("add", 0, None, 0), "add", 0, None, (),
            deep(70),
        ):
            for edits in ((edit,), ten[:9] + (edit,), (edit,) + RING_EDITS):
                self.no(("least",) + PAIR + (edits,), ((), (0, 0), ()))
        for edits in (None, 0, True, "", "add", ("add", 0, 1, 0), deep(80)):
            self.no(("least",) + PAIR + (edits,), ((), (0, 0), ()))
        self.assertIs(check(("least",) + PAIR + ((),), ((), (0, 0), ())), True)

    def test_other_statements_about_the_same(self):
        # A certificate stands for its own statement.
        self.assertIs(check(("jams",) + PAIR, least_ranks(case_of(PAIR))), False)
        for statement, certificate in samples():
            for word in WORDS:
                value = (word,) + statement[1:]
                right = plain_is_sound(value) and plain_is_right(value, certificate)
                self.assertIs(check(value, certificate), right)


if __name__ == "__main__":
    unittest.main()
