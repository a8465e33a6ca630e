import itertools
import unittest

from samples import (
    CHAIN4, DOUBLE, MIXED, NO_OPTIONS, PAIR, RING3, WRONG_INTEGERS, WRONG_KINDS, deep, greatest, paths_of,
    plain_dead_ends,
    put_at, random_network, random_table, ring, table_of,
)
from test_edits import drawn_edits, plain_edited
from verdict_samples import plain_stages
from worlds import small_fabric

from calmfabric.changes import is_answer, is_reason, least_change, needed_changes, reason_against
from calmfabric.edits import subsets
from calmfabric.verdicts import is_knot, is_ranks

RING = (RING3[0], table_of(3, {(u, d): (u,) for u in range(3) for d in range(3) if u != d}))
RING_EDITS = (("drop", 0, 1, 0), ("drop", 2, 1, 2))
RING_ANSWER = ((1,), (2, 1, 0), (("knot", ((0, 2), (1, 0), (2, 1))), ("end", (2, 1, 2))))
# With drops of some options and adds that do not help, and with adds that leave a dead end.
SMALL = tuple((small_fabric(seed), drawn_edits(small_fabric(seed)[0], seed, 1 + seed % 5)) for seed in range(120))


def plain_is_calm(network, table):
    """Whether a table has no dead ends and the fabric with it has ranks."""
    return not plain_dead_ends(network, table) and len(plain_stages((network, table, table))) == len(network[1])


def plain_is_reason(network, table, value):
    """Whether a pair of a word and a tuple of the right form is a reason, by the words of [11.4]."""
    word, told = value
    ends = plain_dead_ends(network, table)
    if word == "end":
        return told in ends
    return not ends and is_knot((network, table, table), told)


def calm_subsets(fabric, edits):
    network, table = fabric
    return [some for some in subsets(len(edits)) if plain_is_calm(network, plain_edited(table, edits, some))]


class ReasonTest(unittest.TestCase):
    def test_tables(self):
        words = {}
        for seed in range(150):
            for network, table in ((random_network(seed), random_table(random_network(seed), seed)),
                    small_fabric(seed)):
                reason = reason_against(network, table)
                ends = plain_dead_ends(network, table)
                if reason is None:
                    self.assertIs(plain_is_calm(network, table), True)
                else:
                    self.assertIs(plain_is_calm(network, table), False)
                    self.assertIs(is_reason(network, table, reason), True)
                    self.assertIs(plain_is_reason(network, table, reason), True)
                    self.assertEqual(reason[0] == "end", ends != [])
                    if ends:
                        self.assertEqual(reason, ("end", ends[0]))
                word = reason and reason[0]
                words[word] = words.get(word, 0) + 1
        self.assertGreater(min(words.values()), 20, words)
        self.assertEqual(len(words), 3)

    def test_by_hand(self):
        self.assertEqual(reason_against(*RING), ("knot", ((0, 2), (1, 0), (2, 1))))
        self.assertIs(reason_against(*PAIR), None)
        self.assertIs(reason_against(*CHAIN4), None)
        table = put_at(RING[1], (1, 2), ())
        self.assertEqual(reason_against(RING[0], table), ("end", (0, 2, 0)))
        table = put_at(table, (2, 1), ())
        self.assertEqual(reason_against(RING[0], table), ("end", (0, 2, 0)))
        table = put_at(table, (0, 2), ())
        self.assertEqual(reason_against(RING[0], table), ("end", (1, 0, 1)) if not table[2][0] else None)

    def test_is_reason_for_dead_ends(self):
        network = RING[0]
        table = put_at(put_at(RING[1], (1, 2), ()), (2, 1), ())
        ends = plain_dead_ends(network, table)
        self.assertEqual(ends, [(0, 2, 0)])
        for u, d, c in itertools.product(range(-1, 4), repeat=3):
            self.assertIs(is_reason(network, table, ("end", (u, d, c))), (u, d, c) in ends)
        # A knot of a table that has dead ends, even if nothing else is wrong with it.
        both = (network[0] + 1, network[1] + ((0, 3, 1),))
        wide = table_of(4, {**{(u, d): (u,) for u in range(3) for d in range(3) if u != d}, (0, 2): (0, 3)})
        knot = ((0, 2), (1, 0), (2, 1))
        self.assertIs(is_knot((both, wide, wide), knot), True)
        self.assertIs(is_reason(both, wide, ("knot", knot)), False)
        self.assertIs(is_reason(both, wide, ("end", (0, 2, 3))), True)
        self.assertEqual(reason_against(both, wide), ("end", (0, 2, 3)))

    def test_is_reason_with_knots(self):
        network, table = RING
        knot = ((0, 2), (1, 0), (2, 1))
        self.assertIs(is_reason(network, table, ("knot", knot)), True)
        for value in (
            knot, ("end", knot), ("knot", ()), ("knot", knot[:2]), ("knot", knot[::-1]), ("knot",),
            ("knot", knot, knot),
            ("Knot", knot), ("", knot), (None, knot), (True, knot), (0, knot), ("knot", knot + knot[-1:]),
            ("ranks", knot),
            ("end", (0, 2, 0)), ("end", ()), ("end", (0, 2)), ("end", (0, 2, 0, 0)), ("end", ((0, 2, 0),)), ("end", 0),
            (knot, "knot"), ["knot", knot], ("knot", list(knot)), (("knot", knot),),
        ):
            self.assertIs(is_reason(network, table, value), False, value)

    def test_other_kinds(self):
        network, table = RING
        knotted = ("knot", ((0, 2), (1, 0), (2, 1)))
        ended = put_at(table, (1, 2), ())
        for told, reason in ((table, knotted), (ended, ("end", (0, 2, 0)))):
            self.assertIs(is_reason(network, told, reason), True)
            for path in paths_of(reason):
                for wrong in WRONG_KINDS + WRONG_INTEGERS:
                    self.assertIs(is_reason(network, told, put_at(reason, path, wrong)), False, (path, wrong))
        self.assertIs(is_reason(network, ended, ("end", (False, 2, 0))), False)
        self.assertIs(is_reason(network, ended, ("end", (0, 2, False))), False)
        # The dead end (1, 0, 1) with True.
        other = put_at(table, (2, 0), ())
        self.assertIs(is_reason(network, other, ("end", (1, 0, 1))), True)
        for value in ((True, 0, 1), (1, False, 1), (1, 0, True)):
            self.assertIs(is_reason(network, other, ("end", value)), False)

    def test_a_reason_against_a_calm_table(self):
        for fabric in (PAIR, CHAIN4, DOUBLE, NO_OPTIONS):
            for value in (None, (), ("knot", ()), ("end", ()), ("end", (0, 1, 0)), ("knot", ((0, 1),)),
                    ("knot", ((0, 0),))):
                self.assertIs(is_reason(*fabric, value), False)


class LeastTest(unittest.TestCase):
    def test_the_example(self):
        self.assertEqual(least_change(RING, RING_EDITS), RING_ANSWER)

    def check(self, fabric, edits):
        network, table = fabric
        calm = calm_subsets(fabric, edits)
        answer = least_change(fabric, edits)
        self.assertIs(is_answer(fabric, edits, answer), True)
        self.assertIsInstance(answer, tuple)
        subset, ranks, reasons = answer
        every = subsets(len(edits))
        if calm:
            self.assertEqual(subset, calm[0])
            now = plain_edited(table, edits, subset)
            self.assertIs(is_ranks((network, now, now), ranks), True)
            before = every[:every.index(subset)]
        else:
            self.assertEqual((subset, ranks), (None, ()))
            before = every
        self.assertIsInstance(reasons, tuple)
        self.assertEqual(len(reasons), len(before))
        for some, reason in zip(before, reasons):
            now = plain_edited(table, edits, some)
            self.assertIs(plain_is_reason(network, now, reason), True)
            self.assertIs(is_reason(network, now, reason), True)
        return subset, {reason[0] for reason in reasons}

    def test_against_all_subsets(self):
        sizes, words = {}, {}
        for fabric, edits in SMALL + (((MIXED[0], MIXED[1]), drawn_edits(MIXED[0], 2, 5)),):
            subset, told = self.check(fabric, edits)
            size = None if subset is None else len(subset)
            sizes[size] = sizes.get(size, 0) + 1
            for word in told:
                words[word] = words.get(word, 0) + 1
        self.assertTrue(sizes[None] > 10 and sizes[0] > 10 and sizes[1] > 5, sizes)
        self.assertTrue(len(words) == 2 and min(words.values()) > 10, words)

    def test_greater_changes(self):
        # A drop of an option behind which one channel follows leaves a dead end where two follow.
        drops = (("drop", 0, 2, 0), ("drop", 3, 2, 3), ("drop", 0, 3, 0))
        self.assertEqual(self.check(ring(4), drops), ((0, 1, 2), {"knot", "end"}))
        self.assertEqual(self.check(ring(4), drops[:2])[0], None)
        edits = (("add", 0, 2, 0), ("drop", 1, 2, 1), ("drop", 2, 1, 2), ("drop", 0, 2, 0))
        self.assertEqual(self.check(RING, edits)[0], (2,))
        self.assertEqual(self.check(RING, edits[:2])[0], None)
        # The one who adds an option that was dropped before undoes it.
        self.assertEqual(self.check(RING, edits[3:] + edits[:2])[0], (0,))
        self.assertEqual(self.check(RING, (edits[3], edits[0], edits[3]))[0], (0,))

    def test_no_edits(self):
        self.assertEqual(least_change(PAIR, ()), ((), (0, 0), ()))
        self.assertEqual(least_change(RING, ()), (None, (), (("knot", ((0, 2), (1, 0), (2, 1))),)))

    def test_ten_edits(self):
        edits = tuple(("add", u, d, u) for u in range(4) for d in range(4) if u != d)[:10]
        answer = least_change(ring(4), edits)
        self.assertEqual(answer[:2], (None, ()))
        self.assertEqual(len(answer[2]), 1024)
        self.assertIs(is_answer(ring(4), edits, answer), True)
        self.assertIs(is_answer(ring(4), edits, put_at(answer, (2,), answer[2][:1023])), False)
        edits = edits[:9] + (("drop", 3, 2, 3),)
        subset = least_change(ring(4), edits)[0]
        self.assertEqual(subset, (calm_subsets(ring(4), edits) + [None])[0])

    def test_great_fabrics(self):
        fabric = greatest()
        answer = least_change(fabric, (("drop", 0, 1, 0), ("drop", 0, 1, 64)))
        self.assertEqual((answer[0], len(answer[2])), (None, 4))
        self.assertIs(is_answer(fabric, (("drop", 0, 1, 0), ("drop", 0, 1, 64)), answer), True)


class AnswerTest(unittest.TestCase):
    def test_other_answers(self):
        # Other ranks, other dead ends and other knots do as well.
        for ranks, right in (
            ((2, 1, 0), True), ((7, 5, 3), True), ((10 ** 3000, 1, 0), True), ((2, 2, 0), False), ((2, 1), False),
            ((2, 1, 0, 0), False), ((2, 1, -1), False), ((), False), ((2, True, 0), False), ((2, 1, False), False),
            ((0, 1, 2), False), (None, False), ((2, 1, None), False), ([2, 1, 0], False),
        ):
            self.assertIs(is_answer(RING, RING_EDITS, put_at(RING_ANSWER, (1,), ranks)), right, ranks)
        fabric, edits = RING, (("drop", 1, 2, 1), ("drop", 2, 0, 2), ("drop", 2, 1, 2))
        answer = least_change(fabric, edits)
        self.assertEqual(answer[0], (2,))
        for k, reason in enumerate(answer[2]):
            now = plain_edited(fabric[1], edits, subsets(3)[k])
            for end in plain_dead_ends(fabric[0], now):
                self.assertIs(is_answer(fabric, edits, put_at(answer, (2, k), ("end", end))), True)

    def test_another_subset(self):
        for fabric, edits in SMALL[:60]:
            answer = least_change(fabric, edits)
            for subset in subsets(len(edits)) + [None]:
                value = put_at(answer, (0,), subset)
                self.assertIs(is_answer(fabric, edits, value), subset == answer[0], subset)
        for subset in ((2,), (1, 0), (0, 0), (1, 1), (True,), (-1,), (0, 1, 2), [1], 1, "1", ((1,),)):
            self.assertIs(is_answer(RING, RING_EDITS, put_at(RING_ANSWER, (0,), subset)), False, subset)

    def test_an_earlier_subset(self):
        # All reasons before it are right, but it has one itself.
        seen = {"end": 0, "knot": 0}
        for fabric, edits in SMALL + ((RING, RING_EDITS),):
            answer = least_change(fabric, edits)
            for k, reason in enumerate(answer[2]):
                for ranks in (answer[1], (0,) * len(fabric[0][1]), tuple(range(len(fabric[0][1])))):
                    value = (subsets(len(edits))[k], ranks, answer[2][:k])
                    self.assertIs(is_answer(fabric, edits, value), False)
                    self.assertIs(is_answer(fabric, edits, (None, (), answer[2][:k])), False)
                seen[reason[0]] += 1
        self.assertGreater(min(seen.values()), 20)

    def test_a_later_calm_subset(self):
        # It is calm, but not the least one; nothing can be told against the one before.
        edits = (("drop", 2, 1, 2), ("add", 0, 1, 0))
        answer = least_change(RING, edits)
        self.assertEqual(answer[0], (0,))
        for reason in answer[2] + (("end", (0, 1, 0)), ("knot", ()), ("end", (2, 1, 2))):
            value = ((0, 1), answer[1], answer[2] + (reason, reason))
            self.assertIs(is_answer(RING, edits, value), False)
        self.assertIs(is_answer(RING, edits, ((0, 1), answer[1], answer[2])), False)

    def test_reasons(self):
        tried = 0
        for fabric, edits in SMALL[:70] + ((RING, RING_EDITS),):
            answer = least_change(fabric, edits)
            reasons = answer[2]
            network, table = fabric
            every = subsets(len(edits))
            values = [reasons[:k] + reasons[k + 1:] for k in range(len(reasons))]
            values += [reasons[:k] + reasons[k:k + 1] + reasons[k:] for k in range(len(reasons))]
            values += [reasons + reasons[:1], reasons + (("end", (0, 1, 0)),), reasons + (None,), ((),) + reasons]
            for value in values:
                if len(value) != len(reasons):
                    self.assertIs(is_answer(fabric, edits, put_at(answer, (2,), value)), False)
            for k, j in itertools.combinations(range(len(reasons)), 2):
                value = put_at(put_at(reasons, (k,), reasons[j]), (j,), reasons[k])
                right = all(
                    plain_is_reason(network, plain_edited(table, edits, some), reason) for some,
                    reason in zip(every, value)
                )
                self.assertIs(is_answer(fabric, edits, put_at(answer, (2,), value)), right)
                tried += not right
            for k, j in itertools.product(range(len(reasons)), range(min(len(every), 8))):
                # A reason against the table of another subset.
                other = reason_against(network, plain_edited(table, edits, every[j]))
                if other is not None:
                    right = plain_is_reason(network, plain_edited(table, edits, every[k]), other)
                    self.assertIs(is_answer(fabric, edits, put_at(answer, (2, k), other)), right)
                    tried += not right
        self.assertGreater(tried, 100)

    def test_dead_ends_that_are_none(self):
        # In the answer of the example, the table without (0, 1, 0) has one dead end.
        for u, d, c in itertools.product(range(-1, 4), repeat=3):
            value = put_at(RING_ANSWER, (2, 1), ("end", (u, d, c)))
            self.assertIs(is_answer(RING, RING_EDITS, value), (u, d, c) == (2, 1, 2))
            self.assertIs(is_answer(RING, RING_EDITS, put_at(RING_ANSWER, (2, 0), ("end", (u, d, c)))), False)
        # A knot of that table does not count, as it has a dead end.
        knot = RING_ANSWER[2][0]
        self.assertIs(is_answer(RING, RING_EDITS, put_at(RING_ANSWER, (2, 1), knot)), False)

    def test_none_is_calm(self):
        edits = RING_EDITS[:1]
        answer = least_change(RING, edits)
        self.assertEqual(answer, (None, (), RING_ANSWER[2]))
        for value in (
            (None, (), ()), (None, (), answer[2][:1]), (None, (), answer[2] + answer[2]), (None, (2, 1, 0), answer[2]),
            (None, None, answer[2]), (None, 0, answer[2]), (None, (0,), answer[2]), ((), (), answer[2]),
            ((0,), (), answer[2]),
            (None, (), answer[2][::-1]), (False, (), answer[2]), (0, (), answer[2]), (None, ((),), answer[2]),
            (None, "", answer[2]),
        ):
            self.assertIs(is_answer(RING, edits, value), False, value)
        self.assertIs(is_answer(RING, RING_EDITS, (None, (), RING_ANSWER[2])), False)

    def test_other_kinds(self):
        for fabric, edits in ((RING, RING_EDITS), (RING, RING_EDITS[:1]), (PAIR, ())):
            answer = least_change(fabric, edits)
            self.assertIs(is_answer(fabric, edits, answer), True)
            for path in paths_of(answer):
                part = answer
                for k in path:
                    part = part[k]
                for wrong in WRONG_KINDS + WRONG_INTEGERS[:1] + WRONG_INTEGERS[3:]:
                    if repr(wrong) != repr(part):
                        self.assertIs(is_answer(fabric, edits, put_at(answer, path, wrong)), False, (path, wrong))
            for value in ((), answer[:2], answer + ((),), (answer,), answer[::-1], list(answer), deep(80, answer),
                    ((), (), ())):
                if value != answer:
                    self.assertIs(is_answer(fabric, edits, value), False)


class NeededTest(unittest.TestCase):
    def test_against_all_subsets(self):
        several = 0
        for fabric, edits in SMALL:
            calm = calm_subsets(fabric, edits)
            right = [some for some in calm if not any(set(part) < set(some) for part in calm)]
            found = needed_changes(fabric, edits)
            self.assertIsInstance(found, list)
            self.assertEqual(found, right)
            self.assertEqual(found[:1], [some for some in [least_change(fabric, edits)[0]] if some is not None])
            several += len(found) > 1
        self.assertGreater(several, 2)

    def test_by_hand(self):
        self.assertEqual(needed_changes(PAIR, ()), [()])
        self.assertEqual(needed_changes(RING, ()), [])
        self.assertEqual(needed_changes(PAIR, (("add", 0, 1, 0), ("drop", 0, 1, 0))), [()])
        self.assertEqual(needed_changes(RING, RING_EDITS), [(1,)])
        self.assertEqual(needed_changes(RING, RING_EDITS[::-1]), [(0,)])
        edits = (("drop", 1, 2, 1), ("drop", 0, 2, 0), ("drop", 2, 1, 2), ("drop", 1, 0, 1))
        self.assertEqual(needed_changes(RING, edits), [(1,), (2,), (3,)])
        # The first of them leaves a dead end without the second one.
        drops = (("drop", 0, 2, 0), ("drop", 3, 2, 3), ("drop", 0, 3, 0))
        self.assertEqual(needed_changes(ring(4), drops), [(0, 1, 2)])
        self.assertEqual(needed_changes(ring(4), drops[1:]), [])

    def test_calm_is_not_kept_by_more_edits(self):
        found = 0
        for fabric, edits in SMALL:
            calm = calm_subsets(fabric, edits)
            found += any(set(part) < set(some) and some not in calm for part in calm for some in subsets(len(edits)))
        self.assertGreater(found, 5)

    def test_ten_edits(self):
        edits = drawn_edits(small_fabric(3)[0], 3, 10)
        calm = calm_subsets(small_fabric(3), edits)
        right = [some for some in calm if not any(set(part) < set(some) for part in calm)]
        self.assertEqual(needed_changes(small_fabric(3), edits), right)


if __name__ == "__main__":
    unittest.main()
