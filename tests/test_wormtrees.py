import random
import unittest

from samples import CHAIN4, MIXED, NO_OPTIONS, PAIR, RING3, WRONG_INTEGERS, WRONG_KINDS, deep, paths_of, put_at, ring
from verdict_samples import ESCAPE, PLANE
from worlds import EXAMPLE, TORUS, small_fabric
from worm_samples import (
    LONG, RANKED, ROW, SEVERAL, fitting_knot, plain_candidates, plain_is_tree, plain_is_worm_knot, plain_ways, situations_of,
)

from calmfabric.cases import case_of
from calmfabric.frames import complete, network_of
from calmfabric.routings import in_lanes, shortest, up_down, with_escape
from calmfabric.tables import thinned
from calmfabric.verdicts import verdict
from calmfabric.worms import MAX_FLITS
from calmfabric.wormtrees import is_search_tree, worm_verdict

SMALL = tuple(fabric for fabric in SEVERAL if len(fabric[0][1]) <= 9) + tuple(small_fabric(seed) for seed in range(30, 70))
LENGTHS = (1, 2, 3, 4, 6, 7, MAX_FLITS)


def tree_of(fabric, longest):
    word, told = worm_verdict(fabric, longest)
    assert word == "tree"
    return told


def many_trees(tree):
    return 1 + sum(many_trees(part) for part in tree[3]) if tree[0] == "split" else 1


def plain_tree(fabric, longest, chosen=(), barred=(), rng=None):
    """A search tree for a situation into which no knot fits, made by the words of [9.7]; its order may be short."""
    taken = set(barred).union(*[way for _, way in chosen])
    order = ()
    while rng is None or rng.random() < 0.8:
        free = [c for c in range(len(fabric[0][1])) if c not in taken and c not in order]
        idle = [c for c in free if not plain_candidates(fabric, longest, chosen, tuple(barred) + order, c)]
        if not idle:
            break
        order += (idle[0] if rng is None else rng.choice(idle),)
    shut = tuple(barred) + order
    needed = {c for d, way in chosen for c in fabric[1][fabric[0][1][way[-1]][1]][d]}
    if needed & set(shut) if chosen else len(set(shut)) == len(fabric[0][1]):
        return ("closed", order)
    choices = [c for c in sorted(needed if chosen else range(len(fabric[0][1]))) if c not in taken and c not in shut]
    c = choices[0] if rng is None else rng.choice(choices)
    trees = [
        plain_tree(fabric, longest, chosen + (pair,), shut, rng) for pair in plain_candidates(fabric, longest, chosen, shut, c)
    ]
    if not chosen:
        trees.append(plain_tree(fabric, longest, chosen, shut + (c,), rng))
    return ("split", order, c, tuple(trees))


class VerdictTest(unittest.TestCase):
    def check(self, fabric, longest):
        result = worm_verdict(fabric, longest)
        self.assertIsInstance(result, tuple)
        word, told = result
        if word == "knot":
            self.assertIs(plain_is_worm_knot(fabric, longest, told), True)
            self.assertIsNot(fitting_knot(fabric, longest), None)
        else:
            self.assertEqual(word, "tree")
            self.assertIs(plain_is_tree(fabric, longest, (), (), told), True)
            self.assertIs(is_search_tree(fabric, longest, (), (), told), True)
            self.assertIs(fitting_knot(fabric, longest), None)
        return word

    def test_small_fabrics(self):
        words = {}
        for fabric in SMALL:
            ranks = verdict(case_of(fabric))[0] == "ranks"
            for longest in LENGTHS:
                word = self.check(fabric, longest)
                words.setdefault((ranks, longest == 1, word), []).append(fabric)
                # A knot of packets is one of worms of one flit, and the other way round.
                if not ranks or longest == 1:
                    self.assertEqual(word, "tree" if ranks else "knot")
        self.assertGreater(min(len(words[key]) for key in ((True, True, "tree"), (False, True, "knot"))), 20)
        self.assertGreater(len(words[True, False, "knot"]), 15)
        self.assertGreater(len(words[True, False, "tree"]), 50)

    def test_lengths_from_which_on_there_is_a_knot(self):
        for fabric, least in zip(RANKED, (None, None, None, 3, None, 7, 2, 4)):
            for longest in LENGTHS:
                self.assertEqual(worm_verdict(fabric, longest)[0], "knot" if least and longest >= least else "tree")
                self.assertEqual(self.check(fabric, longest), "knot" if least and longest >= least else "tree")

    def test_trees_with_several_splits(self):
        most = [max(many_trees(tree_of(fabric, 2)) for fabric in RANKED if worm_verdict(fabric, 2)[0] == "tree")]
        most += [many_trees(tree_of(RANKED[4], longest)) for longest in (3, 4)]
        self.assertGreater(most[0], 5)
        self.assertEqual(most[1], 1)
        self.assertGreater(most[2], 9)

    def test_known_fabrics(self):
        for fabric in (TORUS, ESCAPE, PLANE, CHAIN4, ROW, LONG, EXAMPLE, PAIR, NO_OPTIONS):
            for longest in (1, 2, 9, MAX_FLITS):
                word, tree = worm_verdict(fabric, longest)
                self.assertEqual(word, "tree")
                self.assertIs(is_search_tree(fabric, longest, (), (), tree), True)
        for fabric in (RING3, MIXED, ring(4, 5), ring(17, 1000)):
            for longest in (1, 2, 9, MAX_FLITS):
                word, knot = worm_verdict(fabric, longest)
                self.assertEqual(word, "knot")
                self.assertEqual(list(knot), sorted(set(knot)))
                for d, way in knot:
                    self.assertIn(way, plain_ways(fabric, d))

    def test_an_escape_that_helps_packets_but_not_worms(self):
        network = network_of(complete(3), 2, 1)
        everything = tuple(
            tuple(tuple(c for c, channel in enumerate(network[1]) if channel[0] == u) if u != d else () for d in range(3))
            for u in range(3)
        )
        base = in_lanes(network, up_down(network, 0), 2, (0,))
        fabric = (network, with_escape(network, base, in_lanes(network, thinned(network, everything), 2, (1,))))
        self.assertEqual(verdict(case_of(fabric))[0], "ranks")
        for longest in (1, 2, 3):
            self.check(fabric, longest)
        fabric = (network, with_escape(network, base, in_lanes(network, shortest(network), 2, (1,))))
        self.check(fabric, MAX_FLITS)


class TreeTest(unittest.TestCase):
    def test_other_trees(self):
        sizes = set()
        for fabric in RANKED:
            for longest in (1, 2, 3, 4):
                if worm_verdict(fabric, longest)[0] == "tree":
                    tree = plain_tree(fabric, longest)
                    self.assertIs(is_search_tree(fabric, longest, (), (), tree), True)
                    for seed in range(6):
                        tree = plain_tree(fabric, longest, (), (), random.Random(seed))
                        self.assertIs(is_search_tree(fabric, longest, (), (), tree), True)
                        sizes.add(many_trees(tree))
        self.assertGreater(len(sizes), 20)

    def test_other_situations(self):
        tried, none = 0, 0
        for fabric in SMALL:
            for seed in range(1, 8):
                chosen, barred = situations_of(fabric, seed)
                for longest in (1, 3, MAX_FLITS):
                    short = all(worm_way_is_short(fabric, longest, way) for _, way in chosen)
                    if fitting_knot(fabric, longest, chosen, barred) is None:
                        tree = plain_tree(fabric, longest, chosen, barred, random.Random(seed))
                        self.assertIs(is_search_tree(fabric, longest, chosen, barred, tree), True)
                        tried += 1
                        # One for another situation is none here, unless the points say so.
                        other = plain_tree(fabric, longest, chosen, barred)
                        for some, shut in ((chosen[:-1], barred), (chosen, barred[:-1]), (chosen[::-1], barred[::-1])):
                            right = plain_is_tree(fabric, longest, some, shut, other)
                            self.assertIs(is_search_tree(fabric, longest, some, shut, other), right)
                    elif short:
                        none += 1
                        many = range(len(fabric[0][1]))
                        taken = set(barred).union(*[way for _, way in chosen])
                        order = tuple(c for c in many if c not in taken)
                        for value in (("closed", ()), ("closed", order), ("split", (), 0, ()), ("split", order, 0, ())):
                            self.assertIs(is_search_tree(fabric, longest, chosen, barred, value), False)
        self.assertTrue(tried > 200 and none > 20, (tried, none))

    def test_closed(self):
        # In LONG nobody waits in channel 4; then not in 3, and so on.
        for order, right in (
            ((4, 3, 2, 1, 5, 0), True), ((4, 3, 2, 5, 1, 0), True), ((4, 3, 5, 2, 1, 0), True),
            ((4, 3, 2, 1, 5), False),
            ((4, 3, 0, 2, 1, 5), False), ((4, 3, 2, 1, 0, 5), True), ((3, 4, 2, 1, 5, 0), False),
            ((4, 3, 2, 1, 5, 0, 0), True), ((4, 4, 3, 3, 2, 1, 5, 4, 0), True),
            ((4, 3, 2, 1, 5, 0, 6), False), ((4, 3, 2, 1, 5, -6), False), ((), False), ((0, 1, 2, 3, 4, 5), False),
            ((4,), False),
        ):
            self.assertIs(is_search_tree(LONG, MAX_FLITS, (), (), ("closed", order)), right, order)
        self.assertIs(is_search_tree(LONG, MAX_FLITS, (), (3, 4), ("closed", (2, 1, 5, 0))), True)
        self.assertIs(is_search_tree(LONG, MAX_FLITS, (), (4, 2, 3), ("closed", (2, 1, 5, 0))), False)
        self.assertIs(is_search_tree(LONG, MAX_FLITS, (), (0, 1, 2, 3, 4, 5), ("closed", ())), True)
        self.assertIs(is_search_tree(LONG, MAX_FLITS, (), (0, 1, 2, 3, 5), ("closed", ())), False)
        # With a chosen way, an option of it is barred.
        chosen = ((5, (1, 2)),)
        self.assertIs(is_search_tree(LONG, 9, chosen, (), ("closed", (4, 3))), True)
        self.assertIs(is_search_tree(LONG, 9, chosen, (3,), ("closed", ())), True)
        self.assertIs(is_search_tree(LONG, 9, chosen, (), ("closed", ())), False)
        self.assertIs(is_search_tree(LONG, 9, chosen, (), ("closed", (4,))), False)
        self.assertIs(is_search_tree(LONG, 9, chosen, (4,), ("closed", ())), False)
        self.assertIs(is_search_tree(LONG, 9, chosen, (), ("closed", (4, 3, 5, 0))), True)
        # A channel on a chosen way is no part of an order.
        self.assertIs(is_search_tree(LONG, 9, chosen, (3,), ("closed", (2,))), False)
        self.assertIs(is_search_tree(LONG, 9, chosen, (3,), ("closed", (1,))), False)
        # The one channel left is not enough to bar all.
        self.assertIs(is_search_tree(LONG, 9, ((5, (0,)),), (2, 3, 4), ("closed", (1,))), True)

    def test_split(self):
        # With nothing barred, at the first channel of LONG.
        fabric, longest = ROW, MAX_FLITS
        self.assertEqual(plain_candidates(fabric, longest, (), (), 0), [(2, (0,))])
        end = ("closed", (1,))
        for value, right in (
            (("split", (), 0, (end, end)), True), (("split", (), 0, (("closed", (1, 1)), end)), True),
            (("split", (1,), 0, (("closed", ()), ("closed", ()))), False),
            (("split", (1,), 0, (("closed", ()),)), True),
            (("split", (1, 0), 0, (end, end)), False),
            (("split", (), 0, (end,)), False), (("split", (), 0, (end, end, end)), False),
            (("split", (), 0, ()), False),
            (("split", (), 1, (end, end)), False), (("split", (), 1, (("closed", (0,)),)), True),
            (("split", (), 1, (("closed", ()),)), False), (("split", (), 2, (end, end)), False),
            (("split", (), -2, (end, end)), False),
            (("split", (), True, (("closed", (0,)),)), False), (("split", (), False, (end, end)), False),
            (("split", (), 0, (("closed", ()), end)), False), (("split", (), 0, (end, ("closed", ()))), False),
            (("split", (0,), 0, (end, end)), False), (("split", (1,), 1, (("closed", ()), ("closed", ()))), False),
            (("split", (1,), 0, ()), False), (("split", (1,), 0, (("closed", (1,)), ("closed", ()))), False),
            # Behind the split at 1 there is one at 0.
            (("split", (), 1, (("split", (), 0, ()),)), False),
            (("split", (), 1, (("split", (), 0, (("closed", ()),)),)), True),
            (("split", (), 1, (("split", (0,), 0, (("closed", ()),)),)), False),
        ):
            self.assertIs(is_search_tree(fabric, longest, (), (), value), right, value)
        # If there are chosen ways, it is an option of one of them, and there is no tree with it barred.
        chosen = ((2, (0,)),)
        for value, right in (
            (("split", (), 1, ()), True), (("split", (), 1, (end,)), False), (("split", (), 0, ()), False),
            (("split", (1,), 1, ()), False),
            (end, True), (("closed", ()), False),
        ):
            self.assertIs(is_search_tree(fabric, longest, chosen, (), value), right, value)
        self.assertIs(is_search_tree(LONG, 9, ((5, (0,)),), (), ("split", (), 2, ())), False)

    def test_one_thing_wrong(self):
        changed = 0
        for fabric, longest in ((RANKED[0], 2), (RANKED[1], 3), (RANKED[2], 2), (RANKED[3], 2), (RANKED[4], 4)):
            many = len(fabric[0][1])
            tree = tree_of(fabric, longest)
            self.assertIs(is_search_tree(fabric, longest, (), (), tree), True)
            for path in [path for path in paths_of(tree) if path == () or path[-1] != 0 or len(path) > 1]:
                part = tree
                for k in path:
                    part = part[k]
                for other in changes_of(part, many):
                    value = put_at(tree, path, other)
                    right = has_form(value, many) and plain_is_tree(fabric, longest, (), (), value)
                    self.assertIs(is_search_tree(fabric, longest, (), (), value), right, (path, other))
                    changed += not right
        self.assertGreater(changed, 500)

    def test_other_words_and_kinds(self):
        tree = tree_of(RANKED[1], 3)
        self.assertEqual(tree[0], "split")
        more = ((), ("closed",), ("split",), ("closed", (), ()), ("split", (), 0), "closed", "split")
        for wrong in WRONG_KINDS + WRONG_INTEGERS + more:
            self.assertIs(is_search_tree(RANKED[1], 3, (), (), wrong), False)
            self.assertIs(is_search_tree(RANKED[1], 3, (), (), ("closed", wrong)), False)
            for path in paths_of(tree):
                part = tree
                for k in path:
                    part = part[k]
                if repr(wrong) != repr(part):
                    self.assertIs(is_search_tree(RANKED[1], 3, (), (), put_at(tree, path, wrong)), False, (path, wrong))
        for word in ("close", "Closed", "", "ends", None, 0, True, ("closed",), deep(78)):
            self.assertIs(is_search_tree(LONG, 9, (), (), (word, (4, 3, 2, 1, 5, 0))), False)
            self.assertIs(is_search_tree(RANKED[1], 3, (), (), (word,) + tree[1:]), False)
        self.assertIs(is_search_tree(RANKED[1], 3, (), (), ("closed",) + tree[1:]), False)
        self.assertIs(is_search_tree(LONG, 9, (), (), ("split", (4, 3, 2, 1, 5, 0))), False)
        self.assertIs(is_search_tree(LONG, 9, (), (), ["closed", (4, 3, 2, 1, 5, 0)]), False)
        self.assertIs(is_search_tree(LONG, 9, (), (), ("closed", [4, 3, 2, 1, 5, 0])), False)
        self.assertIs(is_search_tree(LONG, 9, (), (), deep(80, ("closed", (4, 3, 2, 1, 5, 0)))), False)
        self.assertIs(is_search_tree(LONG, 9, (), (), ("closed", deep(79))), False)
        self.assertIs(is_search_tree(LONG, 9, (), (), ("split", (), 0, deep(79))), False)

    def test_deep_trees(self):
        # Each split bars one channel more; no channel is split at twice.
        fabric = ring(30)
        fabric = (fabric[0], tuple(tuple((u,) if d == 29 and u != 29 else () for d in range(30)) for u in range(30)))
        tree = ("closed", tuple(range(28, -1, -1)) + (29,))
        self.assertIs(is_search_tree(fabric, 1, (), (), tree), True)
        tree = ("split", (), 28, (("split", (), 29, (("closed", ()),)),))
        for c in range(27, -1, -1):
            # The only candidate through c is (29, (c,)), and there is none through the channels ahead, the last one first.
            tree = ("split", (), c, (("closed", tuple(range(28, c, -1))), tree))
        self.assertIs(is_search_tree(fabric, 1, (), (), tree), True)
        self.assertIs(is_search_tree(fabric, 1, (), (), put_at(tree, (1,), (5,))), False)

    def test_no_tree_where_a_knot_fits(self):
        for fabric in (RING3, MIXED, RANKED[6]):
            longest = 2
            many = len(fabric[0][1])
            for order in ((), (0,), tuple(range(many)), tuple(range(many))[::-1]):
                self.assertIs(is_search_tree(fabric, longest, (), (), ("closed", order)), False)
        # A tree for worms that are shorter is none for longer ones.
        tree = tree_of(RANKED[3], 2)
        self.assertIs(is_search_tree(RANKED[3], 2, (), (), tree), True)
        self.assertIs(is_search_tree(RANKED[3], 3, (), (), tree), False)


def worm_way_is_short(fabric, longest, way):
    return 1 + sum(fabric[0][1][c][2] for c in way[1:]) <= longest


def changes_of(part, many):
    """Some other values in the place of a part of a tree."""
    if isinstance(part, int):
        return list(range(-1, many + 1)) + [True]
    if isinstance(part, str):
        return ["closed", "split", "tree"]
    found = [part[:k] + part[k + 1:] for k in range(len(part))] + [part[::-1], part + part[-1:], part[:1] + part, ()]
    found += [part + (c,) for c in range(many)] if all(isinstance(c, int) for c in part) else []
    found += [put_at(part, (k,), part[k - 1]) for k in range(len(part))]
    return found


def is_channel(value, many):
    return type(value) is int and 0 <= value < many


def has_form(value, many):
    """Whether a value has the form of a search tree for so many channels."""
    if not isinstance(value, tuple) or not value or not isinstance(value[0], str):
        return False
    if len(value) != {"closed": 2, "split": 4}.get(value[0]):
        return False
    if not isinstance(value[1], tuple) or any(not is_channel(c, many) for c in value[1]):
        return False
    if value[0] == "closed":
        return True
    return is_channel(value[2], many) and isinstance(value[3], tuple) and all(has_form(part, many) for part in value[3])


if __name__ == "__main__":
    unittest.main()
