import itertools
import random
import unittest

from samples import (
    CHAIN4, DOUBLE, MIXED, NO_OPTIONS, PAIR, RING3, RING5, WRONG_KINDS, deep, greatest, put_at, random_fabric, ring, table_of,
)
from verdict_samples import ESCAPE, FULL_FABRICS, PLANE
from worlds import EXAMPLE, MESH, SEVERAL, TORUS, small_fabric

from calmfabric.frames import network_of
from calmfabric.frames import ring as ring_frame
from calmfabric.networks import is_home, options, placements
from calmfabric.routings import shortest
from calmfabric.ways import (
    are_heights, arrives, astray, find_loop, first_way, greatest_lengths, is_loop, least_lengths,
)

RING4 = (network_of(ring_frame(4), 1, 2), shortest(network_of(ring_frame(4), 1, 2)))
# For 4 the packets go round in 0 -> 1 -> 0, or by 2 or 3 or straight to 4; those for 5 go round and never come.
ROUND = (
    (6, ((0, 1, 1), (1, 0, 1), (1, 2, 1), (1, 3, 1), (2, 4, 1), (3, 4, 1), (3, 2, 1), (4, 3, 1))),
    table_of(6, {
        (0, 4): (0,), (1, 4): (1, 2, 3), (2, 4): (4,), (3, 4): (5, 6), (0, 5): (0,), (1, 5): (1,),
        (0, 2): (0,), (1, 2): (2, 3), (3, 2): (6,), (4, 2): (7,),
    }),
)
SMALL = tuple(small_fabric(seed) for seed in range(100))
SMALL += (PAIR, NO_OPTIONS, DOUBLE, RING3, RING5, CHAIN4, MIXED, EXAMPLE, ROUND)
GOALS = tuple((fabric, d) for fabric in SMALL for d in range(fabric[0][0]))


def rows_from(fabric, c, d):
    """All rows of different channels from a placement, each lengthened by the options, that end at home."""
    found = []
    waiting = [(c,)]
    while waiting:
        row = waiting.pop()
        if fabric[0][1][row[-1]][1] == d:
            found.append(row)
        ahead = fabric[1][fabric[0][1][row[-1]][1]][d]
        waiting += [row + (option,) for option in ahead if option not in row]
    return found


def plain_loops(fabric, d):
    """All loops for a goal, by trying all rows of different channels that are options one of the other."""
    found = []
    right = [c for c, goal in placements(fabric) if goal == d]
    waiting = [(c,) for c in right]
    while waiting:
        row = waiting.pop()
        ahead = fabric[1][fabric[0][1][row[-1]][1]][d]
        if row[0] in ahead:
            found.append(row)
        waiting += [row + (option,) for option in ahead if option not in row]
    return found


def plain_heights(fabric, d):
    """The length of the longest way for each channel, for a goal without loops."""
    right = {c for c, goal in placements(fabric) if goal == d}
    return tuple(max(map(len, rows_from(fabric, c, d))) if c in right else 0 for c in range(len(fabric[0][1])))


def plain_are_heights(fabric, d, value):
    right = {c for c, goal in placements(fabric) if goal == d}
    for c, height in enumerate(value):
        if c not in right:
            if height != 0:
                return False
        elif is_home(fabric, c, d):
            if height < 1:
                return False
        elif not all(height > value[option] for option in options(fabric, c, d)):
            return False
    return True


class LeastTest(unittest.TestCase):
    def test_against_all_ways(self):
        far, lost, several = 0, 0, 0
        for fabric, d in GOALS:
            right = {c for c, goal in placements(fabric) if goal == d}
            lengths = least_lengths(fabric, d)
            self.assertIsInstance(lengths, tuple)
            self.assertEqual(len(lengths), len(fabric[0][1]))
            for c, length in enumerate(lengths):
                rows = rows_from(fabric, c, d) if c in right else []
                self.assertEqual(length, min(map(len, rows), default=None))
                if rows:
                    shortest_ones = [row for row in rows if len(row) == length]
                    self.assertEqual(first_way(fabric, c, d), min(shortest_ones))
                    several += len(shortest_ones) > 1
                    far += length > 2
                elif c in right:
                    self.assertIs(first_way(fabric, c, d), None)
                    lost += 1
        self.assertTrue(far > 20 and lost > 5 and several > 5, (far, lost, several))

    def test_astray(self):
        seen = 0
        for fabric in SMALL + tuple(random_fabric(seed) for seed in range(40)):
            found = astray(fabric)
            if len(fabric[0][1]) < 9:
                right = [(c, d) for c, d in placements(fabric) if not rows_from(fabric, c, d)]
                self.assertEqual(found, right)
            self.assertEqual(found, sorted(set(found)))
            for c, d in found:
                self.assertIn((c, d), placements(fabric))
                self.assertIs(is_home(fabric, c, d), False)
                self.assertIs(least_lengths(fabric, d)[c], None)
                self.assertIs(first_way(fabric, c, d), None)
                # There is a ring of options.
                self.assertIsNot(find_loop(fabric, d), None)
            seen += len(found)
        self.assertGreater(seen, 20)

    def test_by_hand(self):
        self.assertEqual(least_lengths(ROUND, 4), (3, 4, 2, 2, 1, 1, 2, None))
        self.assertEqual(least_lengths(ROUND, 5), (None,) * 8)
        self.assertEqual(least_lengths(ROUND, 2), (2, None, 1, 2, None, None, 1, 2))
        self.assertEqual(astray(ROUND), [(0, 5), (1, 5)])
        self.assertEqual(first_way(ROUND, 0, 4), (0, 2, 4))
        self.assertEqual(first_way(ROUND, 1, 4), (1, 0, 2, 4))
        self.assertEqual(first_way(ROUND, 3, 4), (3, 5))
        self.assertEqual(first_way(ROUND, 4, 4), (4,))
        self.assertIs(first_way(ROUND, 0, 5), None)
        self.assertEqual(first_way(ROUND, 0, 2), (0, 2))
        self.assertEqual(least_lengths(NO_OPTIONS, 1), (None,))
        self.assertEqual(least_lengths(PAIR, 1), (1, None))

    def test_greater_fabrics(self):
        for fabric in (TORUS, MESH, ESCAPE, PLANE, greatest(), ring(64)):
            self.assertEqual(astray(fabric), [])
            for d in range(0, fabric[0][0], 5):
                lengths = least_lengths(fabric, d)
                for c, length in enumerate(lengths):
                    if length is not None:
                        way = first_way(fabric, c, d)
                        self.assertEqual(len(way), length)
                        self.assertEqual(way[0], c)
                        for here, ahead in itertools.pairwise(way):
                            self.assertIn(ahead, options(fabric, here, d))
                        self.assertIs(is_home(fabric, way[-1], d), True)
                        for option in options(fabric, c, d):
                            self.assertGreaterEqual(lengths[option], length - 1)
        self.assertEqual(least_lengths(ring(64), 0), (None,) + tuple(range(63, 0, -1)))

    def test_shortest_tables_have_their_distances(self):
        for fabric in (MESH, RING4):
            for d in range(fabric[0][0]):
                self.assertEqual(tuple(length or 0 for length in least_lengths(fabric, d)), greatest_lengths(fabric, d))


class LoopTest(unittest.TestCase):
    def test_a_loop_or_heights(self):
        loops, heights = 0, 0
        more = tuple(random_fabric(seed) for seed in range(40))
        for fabric, d in GOALS + tuple((fabric, d) for fabric in more for d in range(fabric[0][0])):
            loop = find_loop(fabric, d)
            lengths = greatest_lengths(fabric, d)
            self.assertIs(loop is None, lengths is not None)
            if loop is not None:
                self.assertIsInstance(loop, tuple)
                self.assertIs(is_loop(fabric, d, loop), True)
                loops += 1
            else:
                self.assertIs(are_heights(fabric, d, lengths), True)
                heights += 1
            if len(fabric[0][1]) < 9:
                self.assertIs(plain_loops(fabric, d) == [], loop is None)
                self.assertIn(loop, plain_loops(fabric, d) + [None])
        self.assertTrue(loops > 50 and heights > 100, (loops, heights))

    def test_all_rows(self):
        right, wrong = 0, 0
        for fabric, d in GOALS:
            many = len(fabric[0][1])
            if many <= 5:
                loops = plain_loops(fabric, d)
                for k in range(many + 1):
                    for row in itertools.permutations(range(many), k):
                        self.assertIs(is_loop(fabric, d, row), row in loops)
                        right += row in loops
                        wrong += row not in loops
        self.assertTrue(right > 20 and wrong > 1000, (right, wrong))

    def test_one_thing_wrong(self):
        for loop in ((0, 1), (1, 0)):
            self.assertIs(is_loop(ROUND, 4, loop), True)
            self.assertIs(is_loop(ROUND, 5, loop), True)
            for d in (0, 1, 2, 3):
                self.assertIs(is_loop(ROUND, d, loop), False)
        for value in (
            (), (0,), (1,), (0, 1, 0), (0, 1, 0, 1), (0, 0), (1, 2), (0, 2), (0, 1, 2), (2, 4), (-8, 1), (0, -7),
            (0, 8), (0, 1, 8),
            (False, 1), (0, True), (0, "1"), (0, None), (0, (1,)), ((0, 1),), [0, 1], (0, 10 ** 3000), "01", None,
            True, 0, 1,
            deep(80), deep(80, (0, 1)),
        ):
            self.assertIs(is_loop(ROUND, 4, value), False, value)
        for wrong in WRONG_KINDS:
            self.assertIs(is_loop(ROUND, 4, wrong), False)
            self.assertIs(is_loop(ROUND, 4, (0, wrong)), False)
            self.assertIs(is_loop(ROUND, 4, (wrong, 1)), False)

    def test_rings_have_none(self):
        # In a ring the packets get off at their goal.
        for fabric in (RING3, RING5, ring(64)):
            for d in (0, 1, 2):
                self.assertIs(find_loop(fabric, d), None)

    def test_rings_of_rings(self):
        fabric = greatest()
        for d in range(0, 64, 9):
            loop = find_loop(fabric, d)
            self.assertIs(is_loop(fabric, d, loop), True)
            self.assertIs(greatest_lengths(fabric, d), None)


class HeightsTest(unittest.TestCase):
    def test_the_longest_ways(self):
        seen = 0
        for fabric, d in GOALS:
            if not plain_loops(fabric, d):
                right = plain_heights(fabric, d)
                self.assertEqual(greatest_lengths(fabric, d), right)
                seen += max(right) > 2
        self.assertGreater(seen, 30)

    def test_the_example(self):
        self.assertEqual(greatest_lengths(RING4, 0), (0, 1, 0, 1, 0, 2, 2, 0))
        self.assertIs(arrives(RING4), True)
        self.assertEqual(greatest_lengths(ROUND, 2), (3, 0, 1, 2, 0, 0, 1, 2))
        self.assertIs(greatest_lengths(ROUND, 4), None)
        self.assertEqual(greatest_lengths(ROUND, 0), (0,) * 8)
        self.assertEqual(greatest_lengths(ring(64), 63), tuple(range(63, 0, -1)) + (0,))

    def test_all_small_heights(self):
        right, wrong = 0, 0
        for fabric, d in GOALS:
            many = len(fabric[0][1])
            if many <= 5:
                least = greatest_lengths(fabric, d)
                for value in itertools.product(range(4), repeat=many):
                    told = plain_are_heights(fabric, d, value)
                    self.assertIs(are_heights(fabric, d, value), told)
                    if told:
                        # No heights have a lesser number anywhere.
                        self.assertTrue(all(mine <= yours for mine, yours in zip(least, value)))
                    right += told
                    wrong += not told
        self.assertTrue(right > 100 and wrong > 1000, (right, wrong))

    def test_greater_heights(self):
        for fabric, d in GOALS:
            least = greatest_lengths(fabric, d)
            if least is not None:
                for by in (2, 10 ** 3000):
                    self.assertIs(are_heights(fabric, d, tuple(height * by for height in least)), True)
                rng = random.Random(d)
                value = tuple(height + rng.randint(0, 2) for height in least)
                self.assertIs(are_heights(fabric, d, value), plain_are_heights(fabric, d, value))

    def test_there_are_none_where_there_is_a_loop(self):
        for fabric, d in GOALS:
            if find_loop(fabric, d) is not None:
                many = len(fabric[0][1])
                for value in ((0,) * many, (1,) * many, tuple(range(many)), tuple(10 ** 3000 * k for k in range(many, 0, -1))):
                    self.assertIs(are_heights(fabric, d, value), False)

    def test_one_entry_wrong(self):
        for fabric, d in ((RING4, 0), (ROUND, 2), (PAIR, 1), (RING3, 1), (CHAIN4, 3)):
            least = greatest_lengths(fabric, d)
            self.assertIs(are_heights(fabric, d, least), True)
            right = {c for c, goal in placements(fabric) if goal == d}
            for c, height in enumerate(least):
                for other in (height - 1, 0, -1, height + 1, 10 ** 3000, -10 ** 3000):
                    value = put_at(least, (c,), other)
                    self.assertIs(are_heights(fabric, d, value), plain_are_heights(fabric, d, value), (c, other))
                    if c not in right or other < height:
                        self.assertIs(are_heights(fabric, d, value), other == height)
                for wrong in WRONG_KINDS + ((height,), str(height)):
                    self.assertIs(are_heights(fabric, d, put_at(least, (c,), wrong)), False)
            for value in (least[:-1], least[1:], least + (0,), (0,) + least, (), (least,), list(least), deep(80, least)):
                self.assertIs(are_heights(fabric, d, value), False)
            for wrong in WRONG_KINDS + (0, 1, -1, 10 ** 3000):
                self.assertIs(are_heights(fabric, d, wrong), False)

    def test_bools_are_no_heights(self):
        self.assertIs(are_heights(PAIR, 1, (1, 0)), True)
        for value in ((True, 0), (1, False), (True, False)):
            self.assertIs(are_heights(PAIR, 1, value), False)

    def test_arrives(self):
        arrived = 0
        for fabric in SMALL + FULL_FABRICS:
            goals = range(fabric[0][0])
            self.assertIs(arrives(fabric), all(greatest_lengths(fabric, d) is not None for d in goals))
            if len(fabric[0][1]) < 9:
                self.assertIs(arrives(fabric), not any(plain_loops(fabric, d) for d in goals))
            if arrives(fabric):
                self.assertEqual(astray(fabric), [])
                arrived += 1
        self.assertTrue(20 < arrived < len(SMALL))
        for fabric in (RING4, RING3, TORUS, MESH, PLANE, ring(64), NO_OPTIONS):
            self.assertIs(arrives(fabric), True)
        for fabric in (ROUND, greatest()):
            self.assertIs(arrives(fabric), False)

    def test_no_more_moves_than_the_greatest_length(self):
        for fabric in (MESH, RING4, ESCAPE, TORUS):
            for c, d in placements(fabric)[:200]:
                most = greatest_lengths(fabric, d)[c]
                for seed in range(2):
                    rng = random.Random(seed)
                    here, moves = c, 1
                    while not is_home(fabric, here, d):
                        here = rng.choice(options(fabric, here, d))
                        moves += 1
                    self.assertLessEqual(moves, most)


class GreatTest(unittest.TestCase):
    def test_several_fabrics(self):
        for fabric in SEVERAL:
            for d in range(fabric[0][0]):
                least = least_lengths(fabric, d)
                most = greatest_lengths(fabric, d)
                if most is not None:
                    self.assertTrue(all((a or 0) <= b for a, b in zip(least, most)))


if __name__ == "__main__":
    unittest.main()
