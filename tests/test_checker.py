"""Which certificates are right for statements that are sound in form ([12.3] to [12.7])."""

import itertools
import random
import unittest

from change_samples import CHANGE, SMALL_CHANGES, change_states, small_change
from check_samples import (
    FULL, HALF, KNOT, OPEN, RING_EDITS, WORDS, channel_statement, drawn_samples, failure_statement, firm_rows,
    plain_is_right,
    plain_is_sound, samples, sets_up_to, variants, weak_pairs,
)
from samples import (
    CHAIN4, MIXED, PAIR, RING3, WRONG_INTEGERS, WRONG_KINDS, deep, greatest, paths_of, put_at, ring,
    table_of,
)
from test_edits import drawn_edits
from test_wormtrees import plain_tree
from verdict_samples import ESCAPE, FULL_FABRICS
from worlds import TORUS, packed_state, plain_after, plain_possible, small_fabric
from worm_samples import LONG, RANKED, plain_candidates, plain_options

from calmfabric.blocked import stop_of, way_out
from calmfabric.cases import case_of
from calmfabric.changeovers import caught, change_case
from calmfabric.changes import least_change
from calmfabric.checker import check, is_sound
from calmfabric.drains import knot_script
from calmfabric.edits import subsets
from calmfabric.packets import empty_state, play
from calmfabric.verdicts import greatest_knot, least_ranks, tight_knot, verdict
from calmfabric.wormknots import find_worm_knot
from calmfabric.wormtrees import worm_verdict

# Values that are of some form of certificates.
STRANGE = WRONG_KINDS + WRONG_INTEGERS + (
    (), ((),), ((), ()), ((), (), ()), (0,), (0, 0), ((0, 0),), ((0, 1),), (None, (), ()), ("closed", ()),
    ("split", (), 0, ()),
    ("knot", ()), ("end", (0, 1, 0)), (((0,), ()),), ((0,), ()), (("go", 0, 1),), (("out", 0),), (("put", 0, 1, 0),),
    ((0, (0,)),),
)


class CertificateTest(unittest.TestCase):
    def test_right_ones(self):
        words = {}
        for statement, certificate in samples() + drawn_samples():
            self.assertIs(plain_is_sound(statement), True)
            self.assertIs(check(statement, certificate), True)
            words[statement[0]] = words.get(statement[0], 0) + 1
        self.assertEqual(set(words), set(WORDS))
        self.assertGreater(min(words.values()), 9, words)

    def test_one_thing_wrong(self):
        wrong, other = {}, {}
        for statement, certificate in samples():
            for value in variants(certificate):
                right = plain_is_right(statement, value)
                self.assertIs(check(statement, value), right, (statement[0], value))
                words = other if right else wrong
                words[statement[0]] = words.get(statement[0], 0) + 1
        self.assertEqual(set(wrong), set(WORDS))
        self.assertGreater(min(wrong.values()), 40, wrong)
        # Other ranks, or other reasons, are right as well.
        self.assertGreater(other["calm"], 5)

    def test_one_thing_wrong_in_drawn_fabrics(self):
        wrong = {}
        for statement, certificate in drawn_samples():
            told = variants(certificate)
            rng = random.Random(len(told))
            for value in rng.sample(told, min(len(told), 40)):
                right = plain_is_right(statement, value)
                self.assertIs(check(statement, value), right, (statement, value))
                wrong[statement[0]] = wrong.get(statement[0], 0) + (not right)
        self.assertGreater(min(wrong.values()), 100, wrong)

    def test_certificates_of_other_statements(self):
        certificates = [certificate for _, certificate in samples()]
        for statement, own in samples():
            for certificate in certificates:
                self.assertIs(check(statement, certificate), plain_is_right(statement, certificate))

    def test_strange_values(self):
        for statement, _ in samples():
            for value in STRANGE + (deep(80, KNOT), statement, (statement,)):
                right = plain_is_right(statement, value)
                self.assertIs(check(statement, value), right, (statement[0], value))
            self.assertIs(check(statement, None), False)

    def test_true_is_no_number(self):
        tried = 0
        for statement, certificate in samples():
            for path in paths_of(certificate):
                part = certificate
                for k in path:
                    part = part[k]
                if part in (0, 1) and path != ():
                    self.assertIs(check(statement, put_at(certificate, path, bool(part))), False, (statement[0], path))
                    tried += 1
        self.assertGreater(tried, 200)

    def test_arguments_are_as_before(self):
        for statement, certificate in samples():
            told = repr((statement, certificate))
            check(statement, certificate)
            is_sound(statement)
            self.assertEqual(repr((statement, certificate)), told)


class TruthTest(unittest.TestCase):
    """Exactly one of two has a certificate, and it is the true one ([12.7])."""

    def one_of(self, yes, no, statement, certificate, more=()):
        self.assertIs(check((yes,) + statement, certificate), True)
        for value in more + (certificate,) + STRANGE:
            self.assertIs(check((no,) + statement, value), False, (no, statement, value))

    def test_calm_and_jams(self):
        words = {}
        for fabric in [small_fabric(seed) for seed in range(80)] + list(FULL_FABRICS):
            word, told = verdict(case_of(fabric))
            many = len(fabric[0][1])
            if word == "ranks":
                self.one_of("calm", "jams", fabric, told, tuple(((c, d),) for c in range(4) for d in range(3)))
            else:
                ranks = tuple(tuple(random.Random(seed).randrange(many + 1) for _ in range(many)) for seed in range(9))
                self.one_of("jams", "calm", fabric, told, ranks)
                self.one_of("jams", "calm", fabric, tight_knot(case_of(fabric)))
            words[word] = words.get(word, 0) + 1
        self.assertGreater(min(words.values()), 20)

    def test_all_ranks_and_knots_of_small_fabrics(self):
        for seed in range(40):
            fabric = small_fabric(seed)
            n, channels = fabric[0]
            if len(channels) <= 4:
                for value in itertools.product(range(3), repeat=len(channels)):
                    statement = ("calm",) + fabric
                    self.assertIs(check(statement, value), plain_is_right(statement, value))
                pairs = list(itertools.product(range(len(channels)), range(n)))
                for k in range(4):
                    for value in itertools.combinations(pairs, k):
                        statement = ("jams",) + fabric
                        self.assertIs(check(statement, value), plain_is_right(statement, value))

    def test_blocked_and_frees(self):
        words = {}
        for seed in range(40):
            fabric = small_fabric(seed)
            many = len(fabric[0][1])
            sets = tuple(some for size in range(4) for some in itertools.combinations(range(many), size))
            for state in [packed_state(fabric, k) for k in range(3)]:
                moves = [("go", c, c2) for c in range(many) for c2 in range(many)] + [("out", c) for c in range(many)]
                scripts = tuple(script for size in (1, 2) for script in itertools.product(moves, repeat=size))
                scripts = scripts if len(scripts) < 500 else scripts[:60]
                for c in [c for c, queue in enumerate(state[1]) if queue]:
                    statement, certificate = channel_statement(fabric, state, c)
                    word, about = statement[0], statement[1:]
                    if word == "blocked":
                        self.one_of("blocked", "frees", about, certificate, scripts)
                    else:
                        self.one_of("frees", "blocked", about, certificate, sets)
                    words[word] = words.get(word, 0) + 1
                    for told, values in (("blocked", sets), ("frees", scripts[:40])):
                        for value in values:
                            statement = (told,) + about
                            self.assertIs(check(statement, value), plain_is_right(statement, value))
        self.assertGreater(min(words.values()), 40, words)

    def test_worms(self):
        words = {}
        for fabric in [small_fabric(seed) for seed in range(30)] + list(RANKED) + [TORUS, ESCAPE, LONG, CHAIN4]:
            for longest in (1, 2, 4, 1000000):
                word, told = worm_verdict(fabric, longest)
                about = fabric + (longest,)
                if word == "tree":
                    pairs = tuple(((d, (c,)),) for c in range(4) for d in range(3))
                    self.one_of("worms calm", "worms jam", about, told, pairs)
                else:
                    many = len(fabric[0][1])
                    trees = tuple(("closed", order) for order in (tuple(range(many)), tuple(range(many))[::-1]))
                    self.one_of("worms jam", "worms calm", about, told, trees)
                words[word] = words.get(word, 0) + 1
        self.assertGreater(min(words.values()), 20)

    def test_longer_and_shorter_worms(self):
        # A knot that needs three flits, and the tree for two.
        fabric = RANKED[3]
        knot, tree = find_worm_knot(fabric, 3), worm_verdict(fabric, 2)[1]
        for longest in (1, 2, 3, 4, 1000000):
            self.assertIs(check(("worms jam",) + fabric + (longest,), knot), longest >= 3)
            if longest >= 2:
                self.assertIs(check(("worms calm",) + fabric + (longest,), tree), longest < 3)

    def test_changes(self):
        words = {}
        for change in SMALL_CHANGES + (CHANGE,):
            word, told = verdict(change_case(change))
            if word == "ranks":
                knots = tuple(((c, d),) for c in range(4) for d in range(3))
                self.one_of("change calm", "change jams", change, told, knots)
                for state in change_states(change, range(1)):
                    self.assertEqual(caught(change, state), ())
            else:
                many = len(change[0][1])
                self.one_of("change jams", "change calm", change, told, ((0,) * many, tuple(range(many))))
            words[word] = words.get(word, 0) + 1
        self.assertGreater(min(words.values()), 20)
        # The two tables by themselves are no case of the changeover.
        network, old, new = CHANGE
        for table in (old, new):
            ranks = least_ranks((network, table, table))
            self.assertIs(check(("calm", network, table), ranks), True)
            self.assertIs(check(("change calm", network, old, new), ranks), False)

    def test_changes_from_tables_with_dead_ends(self):
        # [12.2] asks for a case alone, so the old table may have dead ends; a changeover has none.
        network = (3, ((0, 1, 1), (1, 2, 1), (0, 2, 1)))
        old, new = table_of(3, {(0, 2): (0,)}), table_of(3, {(0, 2): (2,), (1, 2): (1,)})
        self.assertIs(check(("change calm", network, old, new), (1, 0, 0)), True)
        self.assertIs(check(("change calm", network, old, new), (0, 0, 0)), False)
        self.assertIs(check(("change jams", network, old, new), ((0, 2),)), False)

    def test_firm_and_weak(self):
        words = {}
        for seed in range(60):
            fabric = small_fabric(seed)
            many = len(fabric[0][1])
            for k in (1, 2, many) if many <= 5 else (1, 2):
                statement, certificate = failure_statement(fabric, k)
                word, about = statement[0], statement[1:]
                if word == "firm":
                    pairs = tuple((some, ((c, d),)) for some in sets_up_to(many,
                        k)[:9] for c in range(3) for d in range(3))
                    self.one_of("firm", "weak", about, certificate, pairs)
                else:
                    rows = tuple((some, (0,) * many) for some in sets_up_to(many, k))
                    self.one_of("weak", "firm", about, certificate, (rows, rows[:1], ()))
                words[word] = words.get(word, 0) + 1
        self.assertGreater(min(words.values()), 20)


def forged_tree(fabric, longest, forge, chosen=(), barred=()):
    """A tree that is right but for its ends where all options of the chosen ways are on them, which are a worm knot."""
    many = len(fabric[0][1])
    taken = set(barred).union(*[way for _, way in chosen])
    needed = sorted({c for d, way in chosen for c in plain_options(fabric, d, way)})
    if set(needed) & set(barred) if chosen else len(taken) == many:
        return ("closed", ())
    free = [c for c in (needed if chosen else range(many)) if c not in taken]
    if not free:
        return (("split", (), needed[0], ()), ("split", (), many, ()), ("closed", ()),
            ("split", (needed[0],), needed[0], ()))[forge]
    c = free[0]
    pairs = plain_candidates(fabric, longest, chosen, barred, c)
    trees = [forged_tree(fabric, longest, forge, chosen + (pair,), barred) for pair in pairs]
    if not chosen:
        trees.append(forged_tree(fabric, longest, forge, chosen, barred + (c,)))
    return ("split", (), c, tuple(trees))


class WormTest(unittest.TestCase):
    def test_other_trees(self):
        sizes = set()
        for fabric, longest in ((RANKED[0], 2), (RANKED[1], 3), (RANKED[2], 2), (RANKED[3], 2), (RANKED[4], 3)):
            statement = ("worms calm",) + fabric + (longest,)
            for seed in range(8):
                tree = plain_tree(fabric, longest, (), (), random.Random(seed))
                self.assertIs(check(statement, tree), True)
                sizes.add(repr(tree))
                told = variants(tree)
                for value in random.Random(seed).sample(told, min(len(told), 25)):
                    self.assertIs(check(statement, value), plain_is_right(statement, value))
        self.assertGreater(len(sizes), 25)

    def test_forged_trees(self):
        # Where a worm knot is chosen, they split at a channel of a chosen way, at a barred one, or at none.
        tried = 0
        for fabric, longest in ((RANKED[5], 7), (RANKED[3], 3), (RANKED[6], 2), (RING3, 1), (RING3, 2), (MIXED, 1)):
            for forge in range(4):
                tree = forged_tree(fabric, longest, forge)
                self.assertIs(check(("worms calm",) + fabric + (longest,), tree), False)
                tried += 1
        self.assertEqual(tried, 24)

    def test_splits_at_channels_that_are_none(self):
        # Barring a channel that is none, or one that is barred already, leaves all as it was.
        tree = ("closed", (2, 1, 0))
        statement = ("worms calm",) + CHAIN4 + (9,)
        self.assertIs(check(statement, tree), True)
        for c in (3, 4, -1, -3, 399, 10 ** 3000, True, None):
            self.assertIs(check(statement, ("split", (), c, (tree,))), False)
        self.assertIs(check(statement, ("split", (), 2, (("closed", (1, 0)),))), True)
        for c in (0, 1, 2):
            self.assertIs(check(statement, ("split", (2, 1, 0), c, (("closed", ()),))), False)
            self.assertIs(check(statement, ("split", (2, 1, 0), c, ())), False)
        for order, right in (((2, -1, 1, 0), False), ((-1, 1, 0), False), ((2, 1, 0, -3), False),
                ((2, 2, 1, 1, 0), True)):
            self.assertIs(check(statement, ("closed", order)), right, order)

    def test_ways_past_barred_channels(self):
        # Channel 4 and 5 lead home from the nodes 1 and 2; when they are barred, a way from 0 still goes on to 3.
        network = (5, ((0, 1, 1), (1, 2, 2), (2, 3, 3), (3, 4, 1), (1, 4, 1), (2, 4, 1)))
        fabric = (network, table_of(5, {(0, 4): (0,), (1, 4): (1, 4), (2, 4): (2, 5), (3, 4): (3,)}))
        for longest in (1, 2, 5, 6, 7):
            statement = ("worms calm",) + fabric + (longest,)
            self.assertIs(check(statement, ("closed", (3, 4, 5, 2, 1, 0))), True)
            # 0 with 1 and 2 is a way for six flits; 1 with 2 for four.
            self.assertIs(check(statement, ("closed", (4, 5, 0, 3, 2, 1))), longest < 6)
            self.assertIs(check(statement, ("closed", (4, 5, 1, 0, 3, 2))), longest < 4)
            for order in itertools.permutations(range(6)):
                if order[0] in (4, 5):
                    value = ("closed", order)
                    self.assertIs(check(statement, value), plain_is_right(statement, value))

    def test_orders(self):
        # In LONG nobody waits in channel 4; then not in 3, and so on.
        for order in itertools.permutations(range(6)):
            statement = ("worms calm",) + LONG + (9,)
            self.assertIs(check(statement, ("closed", order)), plain_is_right(statement, ("closed", order)))
        for order, right in (
            ((4, 3, 2, 1, 5, 0), True), ((4, 3, 2, 1, 5, 0, 0), True), ((4, 4, 3, 3, 2, 1, 5, 4, 0), True),
            ((4, 3, 2, 1, 5), False),
            ((4, 3, 2, 1, 5, 0, 6), False), ((4, 3, 2, 1, 5, -6), False), ((4, 3, 2, True, 5, 0), False), ((), False),
        ):
            self.assertIs(check(("worms calm",) + LONG + (1000000,), ("closed", order)), right, order)

    def test_deep_trees(self):
        # Deeper than any value has to be; each split bars one channel more.
        fabric = ring(64)
        fabric = (fabric[0], tuple(tuple((u,) if d == 63 and u != 63 else () for d in range(64)) for u in range(64)))
        tree = ("split", (), 62, (("split", (), 63, (("closed", ()),)),))
        for c in range(61, -1, -1):
            tree = ("split", (), c, (("closed", tuple(range(62, c, -1))), tree))
        self.assertIs(check(("worms calm",) + fabric + (1,), tree), True)
        self.assertIs(check(("worms calm",) + fabric + (1,), put_at(tree, (1,), (5,))), False)
        self.assertIs(check(("worms calm",) + fabric + (2,), tree), False)

    def test_knots_by_hand(self):
        square = ring(4, 2)
        knot = ((0, (1, 2)), (2, (3, 0)))
        # Nothing is wrong with these but that a channel is on two of the ways.
        for value in (((0, (1, 2)), (0, (2,)), (2, (3, 0))), ((0, (1, 2)), (2, (0,)), (2, (3, 0))),
                ((0, (1, 2)), (2, (3, 0)), (3, (1,)))):
            self.assertIs(check(("worms jam",) + square + (9,), value), False, value)
        for longest, right in ((1, False), (2, False), (3, True), (1000000, True)):
            self.assertIs(check(("worms jam",) + square + (longest,), knot), right)
        for value in (
            (), knot[:1], knot[1:], knot[::-1], knot + knot[1:], knot[:1] + knot, ((0, (2, 1)), (2, (3, 0))),
            ((0, (1, 2)), (2, (3,))),
            ((0, (1, 2)), (3, (3, 0))), ((3, (1, 2)), (2, (3, 0))), ((0, (1, 2, 3)), (2, (3, 0))),
            ((0, (1, 2)), (2, (2, 3, 0))),
            ((0, (1, 2)), (2, (3, 0, 0))), ((0, (1, 2)), (2, ())), ((0, (1, 2)), (2, 3)), ((0, (1, 2)), (-2, (3, 0))),
            ((0, (1, 2)), (4, (3, 0))), ((0, (1, 2)), (2, (-1, 0))), ((0, (1, 2)), (2, (3, 4))),
            ((False, (1, 2)), (2, (3, 0))),
            ((0, (True, 2)), (2, (3, 0))), ((0, (1, 2)), (2, (3, False))), list(knot), ((0, [1, 2]), (2, (3, 0))), None,
            0, deep(80, knot),
        ):
            self.assertIs(check(("worms jam",) + square + (9,), value), False, value)


class RanksTest(unittest.TestCase):
    def test_greater_ranks(self):
        statement = ("calm",) + HALF
        for value, right in (
            ((2, 1, 0), True), ((5, 3, 1), True), ((10 ** 3000, 10 ** 2999, 0), True), ((2, 2, 0), False),
            ((2, 1, 1), False),
            ((0, 1, 2), False), ((2, 1), False), ((2, 1, 0, 0), False), ((2, 1, -1), False), ((2, 1, False), False),
            ((2, True, 0), False), ((2, 1, None), False), ((2, 1, "0"), False), ([2, 1, 0], False),
            ((2, 1, (0,)), False),
        ):
            self.assertIs(check(statement, value), right, value)

    def test_great_fabrics(self):
        network, table = greatest()
        knot = verdict(case_of((network, table)))[1]
        self.assertIs(check(("jams", network, table), knot), True)
        self.assertIs(check(("jams", network, table), knot[:-1]), False)
        self.assertIs(check(("calm", network, table), (0,) * 400), False)
        self.assertIs(check(("calm",) + TORUS, least_ranks(case_of(TORUS))), True)
        self.assertIs(check(("calm",) + TORUS, tuple(rank // 2 for rank in least_ranks(case_of(TORUS)))), False)


class ChannelTest(unittest.TestCase):
    def test_great_rooms(self):
        # Three channels with a thousand packets each.
        fabric = ring(3, 1000)
        state = play(fabric, empty_state(fabric), knot_script(fabric[0], KNOT))
        for c in range(3):
            about = fabric + (state, c)
            self.assertIs(check(("blocked",) + about, stop_of(fabric, state, c)), True)
            self.assertIs(check(("blocked",) + about, ()), False)
            self.assertIs(check(("frees",) + about, (("go", c, (c + 1) % 3),)), False)
        free = put_at(state, (1, 1), state[1][1][:999])
        for c in (0, 1, 2):
            script = way_out(fabric, free, c)
            self.assertIs(check(("frees",) + fabric + (free, c), script), True)
            self.assertIs(check(("blocked",) + fabric + (free, c), (0, 1, 2)), False)

    def test_stops(self):
        about = RING3 + (FULL, 0)
        for value, right in (
            ((0, 1, 2), True), ((0, 1), False), ((0, 2), False), ((1, 2), False), ((), False), ((0, 1, 2, 3), False),
            ((2, 1, 0), False), ((0, 1, 1, 2), False), ((0, 1, 2, 2), False), ((False, 1, 2), False),
            ((0, True, 2), False),
            ([0, 1, 2], False), ((0, 1, (2,)), False), ((0, 1, None), False), (0, False), ((-3, -2, -1), False),
        ):
            self.assertIs(check(("blocked",) + about, value), right, value)

    def test_a_stop_for_a_channel_outside(self):
        # Channel 3 leads into a full ring; it has room for one more packet itself.
        network = (4, ((0, 1, 1), (1, 2, 1), (2, 0, 1), (3, 0, 2)))
        table = table_of(4, {**{(u, d): (u,) for u in range(3) for d in range(3) if u != d}, (3, 1): (3,),
            (3, 0): (3,)})
        state = (5, FULL[1] + (((3, 1),),))
        about = (network, table, state, 3)
        self.assertIs(check(("blocked",) + about, (0, 1, 2)), True)
        self.assertIs(check(("blocked",) + about, (0, 1, 2, 3)), False)
        self.assertIs(check(("blocked",) + about, ()), False)
        home = put_at(state, (1, 3, 0, 1), 0)
        self.assertIs(check(("blocked", network, table, home, 3), (0, 1, 2)), False)
        self.assertIs(check(("frees", network, table, home, 3), (("out", 3),)), True)

    def test_ways_out(self):
        # The packets for 3 go through 1 and 2.
        state = (5, (((0, 3),), ((1, 3),), ((2, 3),)))
        right = (("out", 2), ("go", 1, 2), ("go", 0, 1))
        about = CHAIN4 + (state, 0)
        self.assertIs(check(("frees",) + about, right), True)
        for value in (
            right[:2], right[1:], right[::-1], (), right + right[:1], right + (("go", 1, 2),), (("go", 0, 1),),
            (("out", 2), ("go", 1, 2), ("out", 2)), right[:1] + right, (("put", 0, 3, 0),) + right,
            (("out", 2), ("go", 1, 2), ("go", 0, 1, 1)), (("out", 2), ("go", 1, 2), ("go", 0)),
            (("out", 2, 2),) + right[1:],
            (("Out", 2),) + right[1:], (("out", True),) + right[1:], (("out", 2), ("go", True, 2), right[2]),
            list(right),
            (("out", 2), ("go", 1, 2), ["go", 0, 1]), (right,), (("out", 3),) + right, (("out", -1),) + right[1:],
            (("out", 2), ("go", -2, 2), right[2]), (("out", 2), ("go", 1, -1), right[2]),
            (("out", 10 ** 3000),) + right[1:],
            (("out", 2), ("go", 1, 2), ("out", 2), ("go", 0, 1), ("go", 1, 2)), (("pull", 0, 1),), ((),) + right,
            (None,) + right,
        ):
            self.assertIs(check(("frees",) + about, value), False, value)
        longer = (("out", 2), ("go", 1, 2), ("out", 2), ("go", 0, 1))
        self.assertIs(check(("frees",) + about, longer), True)
        # The same steps move the first packets of the others before the last step.
        self.assertIs(check(("frees",) + CHAIN4 + (state, 1), right[:2]), True)
        self.assertIs(check(("frees",) + CHAIN4 + (state, 1), right), False)

    def test_drawn_moves(self):
        right, wrong = 0, 0
        for seed in range(60):
            network, table = small_fabric(seed)
            fabric = ((network[0], tuple((u, v, 1 + k % 3) for k, (u, v, _) in enumerate(network[1]))), table)
            for state in [packed_state(fabric, k) for k in range(4)]:
                rng = random.Random(seed)
                now, script = state, ()
                for _ in range(12):
                    moves = [step for step in plain_possible(fabric, now) if step[0] != "put"]
                    if not moves:
                        break
                    script += (rng.choice(moves),)
                    now = plain_after(fabric, now, script[-1])
                for c in range(len(network[1])):
                    firsts = [k for k, step in enumerate(script) if step[1] == c]
                    statement = ("frees",) + fabric + (state, c)
                    if firsts and state[1][c]:
                        # Up to the first move from the channel; with a step more, less, twice.
                        way = script[:firsts[0] + 1]
                        self.assertIs(check(statement, way), True)
                        self.assertIs(check(statement, script), firsts == [len(script) - 1])
                        right += len(way) > 1
                        for k in range(len(way)):
                            for value in (way[:k] + way[k + 1:], way[:k] + way[k:k + 1] + way[k:],
                                    way[:k] + way[k:][::-1]):
                                told = plain_is_right(statement, value)
                                self.assertIs(check(statement, value), told)
                                wrong += not told
        self.assertTrue(right > 100 and wrong > 500, (right, wrong))

    def test_packets_behind_each_other(self):
        # Of the packets in channel 0 the first one goes on to 1, the second one is home behind it.
        network = (4, ((0, 1, 2), (1, 2, 2), (3, 0, 1)))
        table = table_of(4, {(0, 1): (0,), (0, 2): (0,), (1, 2): (1,), (3, 1): (2,), (3, 2): (2,)})
        state = (3, (((0, 2), (1, 1)), (), ((2, 2),)))
        statement = ("frees", network, table, state, 2)
        for value, right in (
            ((("go", 0, 1), ("go", 2, 0)), True), ((("go", 0, 1), ("out", 0), ("go", 2, 0)), True),
            ((("out", 0), ("go", 2, 0)), False),
            ((("go", 0, 1), ("out", 1), ("go", 2, 0)), True),
            ((("go", 0, 1), ("out", 1), ("out", 1), ("go", 2, 0)), False),
            ((("go", 0, 1), ("go", 0, 1), ("go", 2, 0)), False),
            ((("go", 0, 1), ("out", 0), ("out", 0), ("go", 2, 0)), False),
            ((("go", 2, 0),), False), ((("go", 0, 1), ("out", 0), ("out", 1), ("go", 2, 0)), True),
        ):
            self.assertIs(check(statement, value), right, value)

    def test_a_round_through_the_own_channel(self):
        # A packet behind the first one must not go before it.
        state = (4, (((0, 1), (1, 1), (2, 1)), ()))
        for value, right in (((("out", 0),), True), ((("out", 0),) * 2, False), ((("out", 0),) * 3, False),
                ((), False)):
            self.assertIs(check(("frees",) + PAIR + (state, 0), value), right)


class FailureTest(unittest.TestCase):
    def test_rows_of_other_kinds(self):
        for fabric, k in ((HALF, 1), (HALF, 2), (HALF, 3), (CHAIN4, 2), (PAIR, 2), (PAIR, 1)):
            rows = firm_rows(fabric, k)
            statement = ("firm",) + fabric + (k,)
            self.assertIs(check(statement, rows), True)
            many = len(fabric[0][1])
            for j in range(len(rows)):
                # Left out, twice, with other channels.
                self.assertIs(check(statement, rows[:j] + rows[j + 1:]), False)
                self.assertIs(check(statement, rows[:j + 1] + rows[j:]), False)
                for some in sets_up_to(many, many) + [(), (many,), rows[j][0][::-1], rows[j][0] * 2]:
                    self.assertIs(check(statement, put_at(rows, (j, 0), some)), some == rows[j][0])
                for other in ((), rows[j][1][1:], rows[j][1] + (0,), None, (True,) * many, (-1,) * many, (0,)):
                    self.assertIs(check(statement, put_at(rows, (j, 1), other)), False)
                self.assertIs(check(statement, put_at(rows, (j,), rows[j] + (0,))), False)
                self.assertIs(check(statement, put_at(rows, (j,), rows[j][:1])), False)
            for i, j in itertools.combinations(range(len(rows)), 2):
                # In another order.
                swapped = put_at(put_at(rows, (i,), rows[j]), (j,), rows[i])
                self.assertIs(check(statement, swapped), False)
            # The rows for more channels, or fewer.
            for other in range(1, many + 1):
                self.assertIs(check(("firm",) + fabric + (other,), rows), other == k)
            more = rows + (((), least_ranks(case_of(fabric))),)
            self.assertIs(check(statement, more), False)
            self.assertIs(check(statement, more[-1:] + rows), False)
            self.assertIs(check(statement, ()), False)

    def test_no_row_for_the_fabric_itself(self):
        # RING3 has a knot as long as nothing fails; then it has none.
        rows = firm_rows(RING3, 1)
        self.assertIs(verdict(case_of(RING3))[0] == "knot", True)
        self.assertIs(check(("firm",) + RING3 + (1,), rows), True)
        self.assertIs(check(("weak",) + RING3 + (1,), ((), KNOT)), False)

    def test_any_set_of_channels(self):
        seen = 0
        for fabric in [OPEN, MIXED] + [small_fabric(seed) for seed in range(40)]:
            many = len(fabric[0][1])
            for k in (1, 2):
                right = dict(weak_pairs(fabric, k))
                for some in sets_up_to(many, min(many, 3)):
                    knot = right.get(some, greatest_knot(case_of(fabric)) or ((0, 1),))
                    statement = ("weak",) + fabric + (k,)
                    self.assertIs(check(statement, (some, knot)), plain_is_right(statement, (some, knot)))
                    if some in right:
                        self.assertIs(check(statement, (some, knot)), True)
                        seen += 1
        self.assertGreater(seen, 100)

    def test_pairs_of_other_kinds(self):
        statement = ("weak",) + OPEN + (1,)
        pair = ((3,), KNOT)
        self.assertIs(check(statement, pair), True)
        for value in (
            (), pair[:1], pair + ((),), pair[::-1], (3, KNOT), ((), KNOT), ((2,), KNOT), ((4,), KNOT), ((-1,), KNOT),
            ((3, 3), KNOT), ((3,), KNOT[:2]), ((3,), ()), ((3,), None), (None, KNOT), ([3], KNOT), list(pair), (pair,),
            ((3,), put_at(KNOT, (0, 0), False)), ((3,), put_at(KNOT, (1, 0), True)), (((3,),), KNOT), (("3",), KNOT),
            ((1, 3), KNOT),
        ):
            self.assertIs(check(statement, value), False, value)
        # A channel of the knot can't be one that fails, and the ring is no knot without the failure.
        for some in sets_up_to(4, 4):
            self.assertIs(check(("weak",) + OPEN + (4,), (some, KNOT)), some == (3,))
        self.assertIs(check(("jams",) + OPEN, KNOT), False)

    def test_thinned_tables(self):
        # Without channel 2 the channels before it are no options any more.
        rows = firm_rows(CHAIN4, 1)
        self.assertEqual(rows, (((0,), (0, 1, 0)), ((1,), (0, 0, 0)), ((2,), (0, 0, 0))))
        self.assertIs(check(("firm",) + CHAIN4 + (1,), rows), True)
        self.assertIs(check(("firm",) + CHAIN4 + (1,), put_at(rows, (0, 1), (0, 0, 0))), False)
        self.assertIs(check(("firm",) + CHAIN4 + (1,), put_at(rows, (2, 1), (0, 0, 9))), True)

    def test_many_channels(self):
        # There are far more sets than anybody could list.
        for fabric in (greatest(), TORUS):
            many = len(fabric[0][1])
            for value in ((), (((0,), (0,) * many),), ((), ()), deep(80), None):
                self.assertIs(check(("firm",) + fabric + (many,), value), False)
                self.assertIs(check(("weak",) + fabric + (many,), value), False)
        rows = firm_rows(TORUS, 1)
        self.assertIs(check(("firm",) + TORUS + (1,), rows), True)
        self.assertIs(check(("firm",) + TORUS + (1,), rows[:-1]), False)


class LeastTest(unittest.TestCase):
    def test_answers(self):
        sizes = {}
        for seed in range(60):
            fabric = small_fabric(seed)
            edits = drawn_edits(fabric[0], seed, seed % 6)
            answer = least_change(fabric, edits)
            statement = ("least",) + fabric + (edits,)
            self.assertIs(check(statement, answer), True)
            for subset in subsets(len(edits)) + [None]:
                self.assertIs(check(statement, put_at(answer, (0,), subset)), subset == answer[0])
            reasons = answer[2]
            for k, subset in enumerate(subsets(len(edits))[:len(reasons)]):
                # All reasons before it are right, but it has one itself.
                for ranks in (answer[1], (0,) * len(fabric[0][1]), tuple(range(len(fabric[0][1])))):
                    self.assertIs(check(statement, (subset, ranks, reasons[:k])), False)
            for k in range(len(reasons)):
                for value in (reasons[:k] + reasons[k + 1:], reasons[:k + 1] + reasons[k:], reasons[:k]):
                    self.assertIs(check(statement, put_at(answer, (2,), value)), False)
            for i, j in itertools.combinations(range(len(reasons)), 2):
                value = put_at(answer, (2,), put_at(put_at(reasons, (i,), reasons[j]), (j,), reasons[i]))
                self.assertIs(check(statement, value), plain_is_right(statement, value))
            size = None if answer[0] is None else len(answer[0])
            sizes[size] = sizes.get(size, 0) + 1
        self.assertTrue(sizes[None] > 5 and sizes[0] > 5 and sizes[1] > 3, sizes)

    def test_ten_edits(self):
        fabric = ring(4)
        edits = tuple(("add", u, d, u) for u in range(4) for d in range(4) if u != d)[:10]
        answer = least_change(fabric, edits)
        self.assertEqual(answer[:2], (None, ()))
        statement = ("least",) + fabric + (edits,)
        self.assertIs(check(statement, answer), True)
        self.assertIs(check(statement, put_at(answer, (2,), answer[2][:-1])), False)
        self.assertIs(check(statement, put_at(answer, (2,), answer[2] + answer[2][:1])), False)
        self.assertIs(check(statement, put_at(answer, (2, 1023), ("knot", ()))), False)

    def test_edits_of_one_option(self):
        edits = (("drop", 2, 1, 2), ("add", 2, 1, 2), ("drop", 2, 1, 2))
        answer = least_change(RING3, edits)
        statement = ("least",) + RING3 + (edits,)
        self.assertEqual(answer[0], (0,))
        self.assertIs(check(statement, answer), True)
        for subset in ((2,), (0, 1), (0, 1, 2), (1, 2)):
            self.assertIs(check(statement, put_at(answer, (0,), subset)), False)
        statement = ("least",) + RING3 + (edits[1:],)
        self.assertIs(check(statement, least_change(RING3, edits[1:])), True)
        self.assertEqual(least_change(RING3, edits[1:])[0], (1,))

    def test_reasons(self):
        statement = ("least",) + RING3 + (RING_EDITS,)
        answer = least_change(RING3, RING_EDITS)
        for path, value in (
            ((2, 1), ("end", (2, 1, 2, 0))), ((2, 1), ("end", (2, 1))), ((2, 1), ("end", (2, 1, 1))),
            ((2, 1), ("end", (2, 1, 3))),
            ((2, 1), ("end", (3, 1, 2))), ((2, 1), ("end", (2, 3, 2))), ((2, 1), ("end", (-1, 1, 2))),
            ((2, 1), ("end", (2, -2, 2))),
            ((2, 1), ("end", (2, 1, -1))), ((2, 1), ("end", (2, True, 2))), ((2, 1), ("end", (0, 2, 0))),
            ((2, 1), ("End", (2, 1, 2))),
            ((2, 1), ("knot", KNOT)), ((2, 0), ("end", KNOT)), ((2, 0), ("knot", KNOT[:2])),
            ((2, 0), ("knot", KNOT, 0)),
            ((2, 0), ("knot",)), ((2, 0), KNOT), ((2, 0), None), ((2,), None), ((2,), answer[2][::-1]),
            ((2,), list(answer[2])),
            ((2,), answer[2][0]), ((1,), ()), ((1,), (0, 0, 0)), ((1,), None), ((0,), 1), ((0,), (True,)),
            ((0,), (1, 1)),
            ((0,), (1, 0)), ((0,), (2,)), ((0,), (-1,)), ((0,), "1"), ((0,), [1]), ((0,), False), ((0,), 0),
        ):
            self.assertIs(check(statement, put_at(answer, path, value)), False, (path, value))
        self.assertIs(check(statement, put_at(answer, (1,), (7, 6, 5))), True)

    def test_no_calm_subset(self):
        statement = ("least",) + RING3 + (RING_EDITS[:1],)
        answer = least_change(RING3, RING_EDITS[:1])
        self.assertEqual(answer[0], None)
        self.assertIs(check(statement, answer), True)
        for value in (
            (None, (), answer[2][:1]), (None, (0, 0, 0), answer[2]), (None, None, answer[2]), ((), (2, 1, 0), ()),
            ((0,), (2, 1, 0), answer[2][:1]), (None, (), answer[2] * 2), (None, (), ()), (None, "", answer[2]),
            (False, (), answer[2]),
        ):
            self.assertIs(check(statement, value), False, value)

    def test_a_calm_subset_that_is_not_the_least(self):
        edits = (("drop", 2, 1, 2), ("add", 0, 1, 0))
        answer = least_change(RING3, edits)
        statement = ("least",) + RING3 + (edits,)
        self.assertIs(check(statement, answer), True)
        for reason in (answer[2][0], ("end", (0, 1, 0)), ("knot", KNOT)):
            self.assertIs(check(statement, ((0, 1), answer[1], answer[2] + (reason, reason))), False)
        # Nothing is to be changed, so there is no reason either.
        self.assertIs(check(("least",) + HALF + ((),), ((), (2, 1, 0), ())), True)
        self.assertIs(check(("least",) + HALF + ((),), (None, (), (("knot", KNOT),))), False)
        self.assertIs(check(("least",) + HALF + ((),), ((), (2, 1, 0), (("knot", KNOT),))), False)


class OtherFabricsTest(unittest.TestCase):
    def test_a_certificate_of_another_fabric(self):
        fabrics = [small_fabric(seed) for seed in range(30)]
        for one, two in itertools.product(fabrics[:12], fabrics):
            word, told = verdict(case_of(one))
            statement = ("calm" if word == "ranks" else "jams",) + two
            self.assertIs(check(statement, told), plain_is_right(statement, told))
            change = small_change(len(one[0][1]))
            statement = ("change calm",) + change
            self.assertIs(check(statement, told), plain_is_right(statement, told))


if __name__ == "__main__":
    unittest.main()
