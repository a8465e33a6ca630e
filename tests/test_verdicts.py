import itertools
import random
import unittest

from samples import MIXED, RING3, WRONG_INTEGERS, WRONG_KINDS, deep, greatest, put_at, random_fabric, ring, table_of
from verdict_samples import (
    ESCAPE, FULL_FABRICS, GREAT_CASES, PLANE, SMALL_CASES, knot_with, plain_knot_sets, plain_placements, plain_stages,
    plain_waits, small_case, twice,
)
from worlds import SEVERAL, small_fabric

from calmfabric.cases import case_of
from calmfabric.frames import network_of, torus
from calmfabric.known_ranks import are_ranks, dateline_ranks, dimension_ranks, escape_ranks, north_ranks
from calmfabric.routings import dateline, dimension_order, in_lanes
from calmfabric.tables import empty_table, renamed, without_channels, without_option
from calmfabric.texts import read_fabric
from calmfabric.verdicts import greatest_knot, is_knot, is_ranks, least_ranks, tight_knot, verdict

RING_TEXT = (
    "nodes 3\nchannel 0 1 1\nchannel 1 2 1\nchannel 2 0 1\nat 0 to 1 : 0\nat 0 to 2 : 0\nat 1 to 0 : 1\nat 1 to 2 : 1\n"
    "at 2 to 0 : 2\nat 2 to 1 : 2"
)
# Two rings of two channels, 0 and 1, 2 and 3, and a channel 4 that leads to the second one; all for the goal 4.
TWO_RINGS = (
    (5, ((0, 1, 1), (1, 0, 1), (2, 3, 1), (3, 2, 1), (1, 2, 1), (3, 4, 1))),
    table_of(5, {(0, 4): (0,), (1, 4): (1, 4), (2, 4): (2,), (3, 4): (3,)}),
)
TWO_KNOTS = (TWO_RINGS[0], put_at(TWO_RINGS[1], (1, 4), (1,)))


def plain_is_ranks(case, value):
    waits = plain_waits(case)
    return all(any(value[option] < value[c] for option in cell) for c, cells in enumerate(waits) for cell in cells.values())


def plain_is_knot(case, value):
    """Whether a tuple of pairs of integers is a knot, by the words of [6.3]."""
    right = plain_placements(case)
    channels, onward = case[0][1], case[2]
    numbers = [c for c, _ in value]
    if not value or list(value) != sorted(set(value)) or len(set(numbers)) != len(numbers):
        return False
    for c, d in value:
        if (c, d) not in right or channels[c][1] == d or not set(onward[channels[c][1]][d]) <= set(numbers):
            return False
    return True


class VerdictTest(unittest.TestCase):
    def test_the_examples(self):
        case = case_of(read_fabric(RING_TEXT))
        self.assertEqual(verdict(case), ("knot", ((0, 2), (1, 0), (2, 1))))
        self.assertEqual(greatest_knot(case), ((0, 2), (1, 0), (2, 1)))
        self.assertIs(least_ranks(case), None)
        # Without the option at the node 2 for 1, the ring is open.
        fabric = (RING3[0], without_option(RING3[1], 2, 1, 2))
        self.assertEqual(verdict(case_of(fabric)), ("ranks", (2, 1, 0)))
        self.assertEqual(least_ranks(case_of(fabric)), (2, 1, 0))
        self.assertIs(greatest_knot(case_of(fabric)), None)
        self.assertIs(tight_knot(case_of(fabric)), None)

    def check(self, case):
        """Exactly one of ranks and a knot, and those of [6.4] and [6.5]."""
        stages = plain_stages(case)
        many = len(case[0][1])
        left = [c for c in range(many) if c not in stages]
        if left:
            right = ("knot", knot_with(case, left))
            self.assertIs(is_knot(case, right[1]), True)
            self.assertIs(least_ranks(case), None)
            self.assertEqual(greatest_knot(case), right[1])
        else:
            right = ("ranks", tuple(stages[c] for c in range(many)))
            self.assertIs(is_ranks(case, right[1]), True)
            self.assertEqual(least_ranks(case), right[1])
            self.assertIs(greatest_knot(case), None)
        self.assertEqual(verdict(case), right)
        return right[0]

    def test_small_cases(self):
        words = [self.check(case) for case in SMALL_CASES]
        self.assertTrue(words.count("ranks") > 20 and words.count("knot") > 20)
        words = [self.check(small_case(seed)) for seed in range(100, 200)]
        self.assertTrue(words.count("ranks") > 20 and words.count("knot") > 20)

    def test_greater_cases(self):
        words = [self.check(case) for case in GREAT_CASES]
        self.assertTrue(words.count("ranks") > 4 and words.count("knot") > 4)
        words = [self.check(twice(random_fabric(seed))) for seed in range(60)]
        self.assertTrue(words.count("ranks") > 8 and words.count("knot") > 8, words.count("knot"))

    def test_no_options(self):
        for fabric in SEVERAL:
            network = fabric[0]
            case = (network, empty_table(network), empty_table(network))
            self.assertEqual(verdict(case), ("ranks", (0,) * len(network[1])))
            self.assertIs(tight_knot(case), None)
            self.assertIs(is_ranks(case, (0,) * len(network[1])), True)

    def test_tables_that_are_known_to_have_ranks(self):
        fabric = (network_of(torus((3, 4)), 2, 1), dateline((3, 4), 2))
        self.assertEqual(verdict(case_of(fabric))[0], "ranks")
        self.assertIs(is_ranks(case_of(fabric), dateline_ranks((3, 4), 2)), True)
        self.assertEqual(verdict(case_of(ESCAPE))[0], "ranks")
        base = in_lanes(ESCAPE[0], dimension_order((3, 3), 2), 2, (0,))
        ranks = escape_ranks(ESCAPE[0], base, dimension_ranks((3, 3), 2))
        self.assertIs(is_ranks(case_of(ESCAPE), ranks), True)
        self.assertIs(is_ranks(case_of(PLANE), north_ranks((4, 3), 2)), True)
        self.assertEqual(verdict(case_of(ring(5)))[0], "knot")

    def test_ranks_of_fabrics_are_those_of_part_3(self):
        for fabric in FULL_FABRICS[:12]:
            ranks = least_ranks(case_of(fabric))
            many = len(fabric[0][1])
            for value in (ranks, (0,) * many, tuple(range(many)), tuple(range(many))[::-1]):
                self.assertIs(is_ranks(case_of(fabric), value), are_ranks(fabric[0], fabric[1], value))


class RanksTest(unittest.TestCase):
    def test_all_small_ranks(self):
        right, wrong = 0, 0
        for case in SMALL_CASES:
            many = len(case[0][1])
            if many <= 5:
                least = least_ranks(case)
                for value in itertools.product(range(3), repeat=many):
                    told = plain_is_ranks(case, value)
                    self.assertIs(is_ranks(case, value), told)
                    if told:
                        # Ranks are never lesser than the least ones.
                        self.assertTrue(all(mine <= yours for mine, yours in zip(least, value)))
                    right += told
                    wrong += not told
        self.assertTrue(right > 100 and wrong > 100, (right, wrong))

    def test_drawn_ranks(self):
        for case in GREAT_CASES[:12] + SMALL_CASES:
            many = len(case[0][1])
            for seed in range(4):
                rng = random.Random(seed)
                value = tuple(rng.randint(0, many) for _ in range(many))
                self.assertIs(is_ranks(case, value), plain_is_ranks(case, value))

    def test_greater_ones(self):
        for case in GREAT_CASES + SMALL_CASES:
            least = least_ranks(case)
            if least:
                for value in (tuple(7 * rank + 3 for rank in least), tuple(rank * 10 ** 3000 + 10 ** 2999 for rank in least)):
                    self.assertIs(is_ranks(case, value), True)

    def test_one_entry_too_small(self):
        seen = 0
        for case in SMALL_CASES:
            least = least_ranks(case)
            for c, rank in enumerate(least or ()):
                if rank > 0:
                    # The entry can't be lesser: there is a placement whose options all have at least rank - 1.
                    self.assertIs(is_ranks(case, put_at(least, (c,), rank - 1)), False)
                    seen += 1
                self.assertIs(is_ranks(case, put_at(least, (c,), -1)), False)
                self.assertIs(is_ranks(case, put_at(least, (c,), -10 ** 3000)), False)
        self.assertGreater(seen, 40)

    def test_one_entry_too_great(self):
        case = case_of((RING3[0], table_of(3, {(0, 1): (0,), (0, 2): (0,), (1, 2): (1,)})))
        self.assertEqual(least_ranks(case), (1, 0, 0))
        for value, right in (
            ((1, 0, 0), True), ((9, 0, 0), True), ((9, 8, 0), True), ((1, 1, 0), False), ((1, 2, 0), False),
            ((0, 0, 0), False),
            ((1, 0, 10 ** 3000), True), ((10 ** 3000, 10 ** 3000 - 1, 0), True), ((10 ** 3000, 10 ** 3000, 0), False),
        ):
            self.assertIs(is_ranks(case, value), right, value)

    def test_other_kinds_and_lengths(self):
        for case in (case_of(MIXED), case_of(PLANE), twice(small_fabric(5))):
            many = len(case[0][1])
            ranks = tuple(rank + 1 for rank in least_ranks(case)) if least_ranks(case) else (0,) * many
            right = least_ranks(case) is not None
            self.assertIs(is_ranks(case, ranks), right)
            for value in (ranks[:-1], ranks + (0,), ranks[1:], (), (ranks,), ranks + ((),), list(ranks), 0, deep(80, ranks)):
                self.assertIs(is_ranks(case, value), False)
            for wrong in WRONG_KINDS + (-1, -2, -10 ** 3000):
                self.assertIs(is_ranks(case, wrong), False)
                for c in (0, 1, many - 1):
                    self.assertIs(is_ranks(case, put_at(ranks, (c,), wrong)), False)

    def test_true_is_no_rank(self):
        case = case_of((RING3[0], table_of(3, {(0, 1): (0,), (0, 2): (0,), (1, 2): (1,)})))
        self.assertIs(is_ranks(case, (1, 0, 1)), True)
        for value in ((True, 0, 1), (1, False, 1), (1, 0, True), (1, 0, False)):
            self.assertIs(is_ranks(case, value), False)


class KnotTest(unittest.TestCase):
    def test_all_sets_of_placements(self):
        right, wrong = 0, 0
        for case in SMALL_CASES:
            found = plain_placements(case)
            if len(found) <= 11:
                for k in range(len(found) + 1):
                    for value in itertools.combinations(found, k):
                        told = plain_is_knot(case, value)
                        self.assertIs(is_knot(case, value), told)
                        right += told
                        wrong += not told
        self.assertTrue(right > 40 and wrong > 1000, (right, wrong))

    def test_a_knot_and_ranks_are_never_both_there(self):
        for case in SMALL_CASES:
            sets = plain_knot_sets(case)
            self.assertIs(sets == [], least_ranks(case) is not None)
            # The channels of the greatest knot contain those of every knot.
            self.assertEqual({c for c, _ in greatest_knot(case) or ()}, set().union(*sets))
            for some in sets:
                self.assertIs(is_knot(case, knot_with(case, some)), True)

    def test_one_thing_wrong(self):
        for case in (case_of(ring(4)), twice(small_case(9)[:2]), case_of(TWO_KNOTS)) + SMALL_CASES[-20:]:
            knot = greatest_knot(case)
            if knot is None:
                continue
            n, channels = case[0]
            self.assertIs(is_knot(case, knot), True)
            self.assertIs(is_knot(case, ()), False)
            for k, (c, d) in enumerate(knot):
                without = knot[:k] + knot[k + 1:]
                self.assertIs(is_knot(case, without), plain_is_knot(case, without))
                home = put_at(knot, (k,), (c, channels[c][1]))
                for value in (
                    home, put_at(knot, (k,), (c, channels[c][0])), put_at(knot, (k, 1), n), put_at(knot, (k, 1), -1),
                    put_at(knot, (k, 0), len(channels)), put_at(knot, (k, 0), c - len(channels)), put_at(knot, (k,), (c,)),
                    put_at(knot, (k,), (c, d, 0)), put_at(knot, (k,), c), put_at(knot, (k,), ()), put_at(knot, (k,), knot),
                    knot[:k] + ((c, d),) + knot[k:], knot + ((c, d),), ((c, d),) + knot, put_at(knot, (k,), [c, d]),
                ):
                    self.assertIs(is_knot(case, value), False, value)
                for other in range(n):
                    value = put_at(knot, (k, 1), other)
                    self.assertIs(is_knot(case, value), plain_is_knot(case, value))
                    # Another goal for a channel that is there already.
                    value = tuple(sorted(knot + ((c, other),)))
                    self.assertIs(is_knot(case, value), False)
                for wrong in WRONG_KINDS + WRONG_INTEGERS:
                    for path in ((k,), (k, 0), (k, 1)):
                        self.assertIs(is_knot(case, put_at(knot, path, wrong)), False)
            for pair in itertools.product(range(len(channels)), range(n)):
                value = tuple(sorted(knot + (pair,)))
                self.assertIs(is_knot(case, value), plain_is_knot(case, value))

    def test_not_ascending(self):
        case = case_of(RING3)
        knot = ((0, 2), (1, 0), (2, 1))
        for value in itertools.permutations(knot):
            self.assertIs(is_knot(case, value), value == knot)
        self.assertIs(is_knot(case, ((0, 2), (1, 0), (2, 1), (2, 1))), False)
        self.assertIs(is_knot(case, list(knot)), False)
        for path, wrong in (((1, 0), True), ((0, 0), False), ((1, 1), False), ((2, 1), True)):
            self.assertIs(is_knot(case, put_at(knot, path, wrong)), False)

    def test_other_values(self):
        for case in (case_of(RING3), case_of(MIXED), case_of(TWO_KNOTS)):
            for value in WRONG_KINDS + WRONG_INTEGERS + (deep(80, ((0, 2),)), (0, 2), ((0, 2),), (((0, 2),),), ((),), ((), ())):
                self.assertIs(is_knot(case, value), False)


class TightTest(unittest.TestCase):
    def check(self, case):
        """The knot that [6.6] finds, by all sets of channels of knots; returns how many of these there are."""
        sets = plain_knot_sets(case)
        if not sets:
            self.assertIs(tight_knot(case), None)
            return 0
        left = set().union(*sets)
        for c in sorted(left):
            without = [set(some) for some in sets if set(some) <= left - {c}]
            if without:
                left = set().union(*without)
        knot = tight_knot(case)
        self.assertEqual(knot, knot_with(case, left))
        self.assertIs(is_knot(case, knot), True)
        # No knot has only some of its channels.
        self.assertEqual([some for some in sets if set(some) < left], [])
        return len(sets)

    def test_small_cases(self):
        found = [self.check(case) for case in SMALL_CASES]
        found += [self.check(twice(random_fabric(seed))) for seed in range(60) if len(random_fabric(seed)[0][1]) < 11]
        self.assertGreater(len([many for many in found if many > 1]), 15)
        self.assertGreater(found.count(0), 30)

    def test_two_knots(self):
        # Channel 0 and 1 are left out, for 2 and 3 are a knot; then nothing more can be.
        self.assertEqual(greatest_knot(case_of(TWO_KNOTS)), ((0, 4), (1, 4), (2, 4), (3, 4)))
        self.assertEqual(tight_knot(case_of(TWO_KNOTS)), ((2, 4), (3, 4)))
        self.assertEqual(greatest_knot(case_of(TWO_RINGS)), ((0, 4), (1, 4), (2, 4), (3, 4), (4, 4)))
        self.assertEqual(tight_knot(case_of(TWO_RINGS)), ((2, 4), (3, 4)))

    def test_rings(self):
        for n in (3, 4, 8, 64):
            knot = tight_knot(case_of(ring(n)))
            self.assertEqual(knot, greatest_knot(case_of(ring(n))))
            self.assertEqual([c for c, _ in knot], list(range(n)))

    def test_greater_cases(self):
        for case in GREAT_CASES:
            knot = tight_knot(case)
            self.assertIs(knot is None, greatest_knot(case) is None)
            if knot is not None and len(knot) < 30:
                self.assertIs(is_knot(case, knot), True)
                network, table, onward = case
                # Without one of its channels, put in and gone on by, the rest of it is no knot.
                waits = plain_waits(case)
                own = {c for c, _ in knot}
                for c in own:
                    left = own - {c}
                    while any(not any(cell <= left for cell in waits[k].values()) for k in left):
                        left = {k for k in left if any(cell <= left for cell in waits[k].values())}
                    self.assertEqual(left, set())


class OtherCasesTest(unittest.TestCase):
    def test_other_rooms(self):
        for case in SMALL_CASES + GREAT_CASES[:12]:
            (n, channels), table, onward = case
            for room in (1, 2, 1000):
                other = ((n, tuple((u, v, room) for u, v, _ in channels)), table, onward)
                self.assertEqual(verdict(other), verdict(case))
                self.assertEqual(tight_knot(other), tight_knot(case))

    def test_more_options(self):
        tried = 0
        for seed in range(200):
            network, table, onward = small_case(seed)
            ranks = least_ranks((network, table, onward))
            if ranks is not None:
                for u, d in itertools.product(range(network[0]), repeat=2):
                    for c in table[u][d]:
                        more = put_at(onward, (u, d), tuple(sorted(set(onward[u][d]) | {c})))
                        self.assertIs(is_ranks((network, table, more), ranks), True)
                        self.assertIs(greatest_knot((network, table, more)), None)
                        tried += more != onward
        self.assertGreater(tried, 60)

    def test_renamed_cases(self):
        for case in SMALL_CASES + GREAT_CASES[:10]:
            network, table, onward = case
            rng = random.Random(len(network[1]))
            nodes = rng.sample(range(network[0]), network[0])
            channels = rng.sample(range(len(network[1])), len(network[1]))
            other, put_table = renamed((network, table), tuple(nodes), tuple(channels))
            _, on_table = renamed((network, onward), tuple(nodes), tuple(channels))
            renamed_case = (other, put_table, on_table)
            word, told = verdict(renamed_case)
            self.assertEqual(word, verdict(case)[0])
            if word == "ranks":
                self.assertEqual(tuple(told[c] for c in channels), verdict(case)[1])
            else:
                self.assertEqual([c for c, _ in told], sorted(channels[c] for c, _ in verdict(case)[1]))
                knot = tuple(sorted((channels[c], nodes[d]) for c, d in verdict(case)[1]))
                self.assertIs(is_knot(renamed_case, knot), True)

    def test_without_channels(self):
        # A knot whose channels are all left out is no knot any more.
        for fabric in (RING3, TWO_KNOTS, MIXED, greatest()):
            knot = tight_knot(case_of(fabric))
            if knot is not None:
                fewer = without_channels(fabric, tuple(c for c, _ in knot))
                self.assertIs(is_knot(case_of(fewer), knot), False)


if __name__ == "__main__":
    unittest.main()
