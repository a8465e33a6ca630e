import itertools
import random
import unittest

from change_samples import (
    CHANGE, NETWORK, NEW, OLD, SMALL_CHANGES, change_states, drawn_change_script, moved_first, plain_change_steps,
    plain_changed, plain_is_changeover, plain_start, present, small_change, union_table,
)
from samples import CHAIN4, DOUBLE, RING3, WRONG_INTEGERS, WRONG_KINDS, deep, greatest, paths_of, put_at, ring, table_of

from calmfabric.cases import case_placements, is_case
from calmfabric.changeovers import (
    can_change, caught, change_case, change_start, changed_by, home_script, is_change_state, is_changeover, jam_script,
    play_change,
)
from calmfabric.errors import FabricError, NotAllowed, NotPossible
from calmfabric.networks import placements
from calmfabric.packets import empty_state
from calmfabric.tables import empty_table, union
from calmfabric.verdicts import greatest_knot, least_ranks, tight_knot, verdict

# The node 1 has switched; a packet for 2 in 0 and one for 0 in 2 go on by the old and the new table.
STATE = ((1,), (7, (((3, 2),), (), (), (), ((5, 2),), ((6, 1),))))


class IsChangeoverTest(unittest.TestCase):
    def test_small_ones(self):
        for change in SMALL_CHANGES + (CHANGE,):
            self.assertIs(is_changeover(change), True)
        network, table = greatest()
        self.assertIs(is_changeover((network, table, table)), True)
        self.assertIs(is_changeover((network, empty_table(network), table)), True)
        self.assertIs(is_changeover((network, table, empty_table(network))), False)
        self.assertIs(is_changeover((network, empty_table(network), empty_table(network))), True)

    def test_each_cell_changed(self):
        right, wrong = 0, 0
        for network, old, new in SMALL_CHANGES + (CHANGE,):
            n, channels = network
            for u, d in itertools.product(range(n), repeat=2):
                out = [c for c, channel in enumerate(channels) if channel[0] == u and u != d]
                for k in range(len(out) + 1):
                    for cell in itertools.combinations(out, k):
                        for value in ((network, put_at(old, (u, d), cell), new),
                                (network, old, put_at(new, (u, d), cell))):
                            told = plain_is_changeover(*value)
                            self.assertIs(is_changeover(value), told)
                            right += told
                            wrong += not told
        self.assertTrue(right > 500 and wrong > 500, (right, wrong))

    def test_by_hand(self):
        # In the old table a packet for 2 goes 0 -> 1 -> 2; the new one has no option at 1 for 2.
        network = (3, ((0, 1, 1), (1, 2, 1), (0, 2, 1)))
        old = table_of(3, {(0, 2): (0,), (1, 2): (1,)})
        self.assertIs(is_changeover((network, old, old)), True)
        self.assertIs(is_changeover((network, old, table_of(3, {(0, 2): (2,)}))), False)
        self.assertIs(is_changeover((network, old, table_of(3, {(0, 2): (2,), (1, 2): (1,)}))), True)
        self.assertIs(is_changeover((network, table_of(3, {(0, 2): (2,)}), old)), True)
        # A dead end in the old table, although the new one goes on; and one in the new table.
        self.assertIs(is_changeover((network, table_of(3, {(0, 2): (0,)}), old)), False)
        self.assertIs(is_changeover((network, table_of(3, {(0, 2): (2,)}), table_of(3, {(0, 2): (0, 2)}))), False)
        # It is a case all the same, for a case does not ask for the old table.
        case = (network, union(table_of(3, {(0, 2): (0,)}), old), old)
        self.assertIs(is_case(case), True)

    def test_another_network(self):
        for network in (
            (4, NETWORK[1]), (2, NETWORK[1]), (3, NETWORK[1][:5]), (3, NETWORK[1][::-1]), (3, ()), (3,), RING3[0],
            put_at(NETWORK, (1, 0), (1, 0, 1)), put_at(NETWORK, (1, 0, 2), 0), put_at(NETWORK, (1, 0, 2), 1001),
            put_at(NETWORK, (1, 0, 2), True), (True, NETWORK[1]), None,
        ):
            self.assertIs(is_changeover((network, OLD, NEW)), False, network)
        self.assertIs(is_changeover((put_at(NETWORK, (1, 0, 2), 1000), OLD, NEW)), True)
        self.assertIs(is_changeover((NETWORK + (), OLD, NEW)), True)

    def test_other_lengths_and_kinds(self):
        for value in (
            (), (NETWORK,), (NETWORK, OLD), (NETWORK, OLD, NEW, NEW), (OLD, NETWORK, NEW), (CHANGE,), list(CHANGE),
            (NETWORK, OLD[:2], NEW), (NETWORK, OLD, NEW[:2]), (NETWORK, OLD + ((),), NEW), (NETWORK, (), NEW),
            (NETWORK, OLD, ()),
            (NETWORK, put_at(OLD, (0, 0), (0,)), NEW), (NETWORK, OLD, put_at(NEW, (1, 2), (2, 2))),
            (NETWORK, OLD, put_at(NEW, (1, 2), (2, 1))), (NETWORK, put_at(OLD, (0, 1), (6,)), NEW),
            (NETWORK, put_at(OLD, (0, 1), (1,)), NEW),
        ):
            self.assertIs(is_changeover(value), False, value)
        for path in paths_of(CHANGE):
            for wrong in WRONG_KINDS + WRONG_INTEGERS:
                self.assertIs(is_changeover(put_at(CHANGE, path, wrong)), False, (path, wrong))
        self.assertIs(is_changeover(deep(80, CHANGE)), False)


class StateTest(unittest.TestCase):
    def test_the_start(self):
        self.assertEqual(change_start(CHANGE), ((), (0, ((),) * 6)))
        for change in SMALL_CHANGES:
            self.assertEqual(change_start(change), plain_start(change))
            self.assertIs(is_change_state(change, change_start(change)), True)

    def test_states_that_steps_lead_to(self):
        both = 0
        for change in SMALL_CHANGES + (CHANGE,):
            by_old, by_new = placements(change[:2]), placements((change[0], change[2]))
            for seed in range(3):
                for state in drawn_change_script(change, seed)[1]:
                    self.assertIs(is_change_state(change, state), True)
                    there = [(c, d) for c, queue in enumerate(state[1][1]) for _, d in queue]
                    both += any(pair not in by_new for pair in there) and any(pair not in by_old for pair in there)
        self.assertGreater(both, 10)

    def test_switched_nodes(self):
        for switched, right in (
            ((), True), ((0,), True), ((0, 1), True), ((0, 1, 2), True), ((2,), True), ((0, 2), True),
            ((1, 0), False), ((0, 0), False), ((0, 1, 1), False), ((3,), False), ((-1,), False), ((0, 1, 2, 3), False),
            ((True,), False), ((0, True), False), ((False,), False), ((None,), False), (("0",), False),
            (((0,),), False),
            ([0], False), (0, False), (None, False), ("", False), ((10 ** 3000,), False), (deep(80), False),
        ):
            self.assertIs(is_change_state(CHANGE, (switched, STATE[1])), right, switched)

    def test_placements_of_the_two_tables(self):
        channels = NETWORK[1]
        for c, d in itertools.product(range(6), range(-1, 4)):
            state = ((), (1, put_at(((),) * 6, (c,), ((0, d),))))
            right = 0 <= d < 3 and (c in OLD[channels[c][0]][d] or c in NEW[channels[c][0]][d])
            for switched in ((), (0, 1, 2)):
                # Which nodes have switched does not matter.
                self.assertIs(is_change_state(CHANGE, (switched, state[1])), right, (c, d))

    def test_packets(self):
        for value in (
            # Twice the same number, numbers that have not been put, more packets than room.
            put_at(STATE, (1, 1, 4, 0, 0), 3), put_at(STATE, (1, 0), 6), put_at(STATE, (1, 1, 0, 0, 0), 7),
            put_at(STATE, (1, 1, 0, 0, 0), -1), put_at(STATE, (1, 1, 0), ((3, 2), (4, 2))), put_at(STATE, (1, 0), -1),
            put_at(STATE, (1, 1), STATE[1][1][:5]), put_at(STATE, (1, 1), STATE[1][1] + ((),)),
            put_at(STATE, (1, 1, 0, 0), (3,)), put_at(STATE, (1, 1, 0, 0), (3, 2, 0)),
            put_at(STATE, (1, 1, 0, 0, 1), 0),
            put_at(STATE, (1, 1, 0, 0, 1), True), put_at(STATE, (1, 1, 0, 0, 0), True), put_at(STATE, (1, 0), True),
            put_at(STATE, (1, 1, 1), ((0, 2),)),
        ):
            self.assertIs(is_change_state(CHANGE, value), False, value)
        self.assertIs(is_change_state(CHANGE, STATE), True)
        self.assertIs(is_change_state(CHANGE, put_at(STATE, (1, 0), 10 ** 3000)), True)

    def test_other_kinds(self):
        for path in paths_of(STATE):
            part = STATE
            for k in path:
                part = part[k]
            for wrong in WRONG_KINDS + WRONG_INTEGERS:
                value = put_at(STATE, path, wrong)
                # A count may be as great as it likes.
                right = path == (1, 0) and wrong == 10 ** 3000
                self.assertIs(is_change_state(CHANGE, value), right, (path, wrong))
        for value in ((), STATE[1], (STATE,), STATE + ((),), (STATE[0],), STATE[::-1], list(STATE), deep(80, STATE),
                ((), ())):
            self.assertIs(is_change_state(CHANGE, value), False)


class StepTest(unittest.TestCase):
    def test_all_steps_in_drawn_states(self):
        words = {}
        for change in SMALL_CHANGES[:40] + (CHANGE,):
            n, m = change[0][0], len(change[0][1])
            steps = [("put", u, d, c) for u in range(n + 1) for d in range(n + 1) for c in range(m + 1)]
            steps += [("go", c, c2) for c in range(m + 2) for c2 in range(m + 2)]
            steps += [(word, k) for word in ("out", "switch") for k in range(max(n, m) + 2)]
            for state in change_states(change, range(2)):
                right = set(plain_change_steps(change, state))
                for step in steps:
                    self.assertIs(can_change(change, state, step), step in right, step)
                for step in right:
                    self.assertEqual(changed_by(change, state, step), plain_changed(change, state, step))
                    words[step[0]] = words.get(step[0], 0) + 1
        self.assertGreater(min(words.values()), 50, words)

    def yes(self, state, *steps):
        for step in steps:
            self.assertIs(can_change(CHANGE, state, step), True, step)

    def no(self, state, *steps):
        for step in steps:
            self.assertIs(can_change(CHANGE, state, step), False, step)
            with self.assertRaises(NotAllowed):
                changed_by(CHANGE, state, step)

    def test_put(self):
        # The node 1 puts by the new table, 0 and 2 by the old one.
        self.yes(STATE, ("put", 1, 0, 1), ("put", 1, 2, 2), ("put", 2, 1, 3))
        self.no(STATE, ("put", 1, 0, 2), ("put", 0, 1, 0), ("put", 0, 2, 4), ("put", 2, 0, 5), ("put", 2, 1, 5),
            ("put", 1, 1, 1))
        start = change_start(CHANGE)
        self.yes(start, ("put", 0, 1, 0), ("put", 0, 2, 0), ("put", 1, 0, 2), ("put", 2, 0, 5))
        self.no(start, ("put", 0, 2, 4), ("put", 1, 0, 1), ("put", 2, 1, 5), ("put", 0, 0, 0))
        self.no(STATE, ("put", 3, 0, 1), ("put", 1, 3, 1), ("put", 1, 0, 6), ("put", 10 ** 3000, 0, 1),
            ("put", 1, 0, 10 ** 3000))

    def test_go(self):
        # 3 is in 0 and goes on at 1, where both tables are the same; 6 is in 5 and goes on at 0 by the old one.
        self.yes(STATE, ("go", 0, 2))
        self.no(STATE, ("go", 0, 1), ("go", 0, 3), ("go", 5, 4), ("go", 5, 0), ("go", 1, 2), ("go", 4, 2), ("go", 0, 0))
        self.yes(put_at(STATE, (1, 1, 0), ()), ("go", 5, 0))
        self.no(put_at(STATE, (1, 1, 0), ()), ("go", 5, 4), ("go", 0, 2))
        self.no(STATE, ("go", 6, 2), ("go", 0, 6), ("go", 10 ** 3000, 2), ("go", 0, 10 ** 3000))
        # With full channels nobody goes.
        self.no(put_at(STATE, (1, 1, 2), ((0, 2),)), ("go", 0, 2))

    def test_out(self):
        self.yes(STATE, ("out", 4))
        self.no(STATE, ("out", 0), ("out", 1), ("out", 5), ("out", 6), ("out", 10 ** 3000))

    def test_switch(self):
        self.yes(STATE, ("switch", 0), ("switch", 2))
        self.no(STATE, ("switch", 1), ("switch", 3), ("switch", 10 ** 3000))
        self.no(((0, 1, 2), STATE[1]), ("switch", 0), ("switch", 1), ("switch", 2))
        self.assertEqual(changed_by(CHANGE, STATE, ("switch", 0)), ((0, 1), STATE[1]))
        self.assertEqual(changed_by(CHANGE, STATE, ("switch", 2)), ((1, 2), STATE[1]))

    def test_a_packet_that_waits_for_its_node(self):
        # The old table has no option at 1 for 3; the new one leads there.
        network = (4, ((0, 1, 1), (1, 2, 1), (2, 3, 1), (0, 2, 1)))
        old = table_of(4, {(0, 2): (3,), (2, 3): (2,)})
        new = table_of(4, {(0, 3): (0,), (1, 3): (1,), (2, 3): (2,)})
        change = (network, old, new)
        self.assertIs(is_changeover(change), True)
        state = play_change(change, change_start(change), (("switch", 0), ("put", 0, 3, 0)))
        self.assertEqual(state, ((0,), (1, (((0, 3),), (), (), ()))))
        self.assertEqual([step for step in plain_change_steps(change, state) if step[0] != "put"],
            [("switch", k) for k in (1, 2, 3)])
        for step in (("go", 0, 1), ("go", 0, 2), ("out", 0)):
            self.assertIs(can_change(change, state, step), False)
        behind = changed_by(change, state, ("switch", 1))
        self.assertIs(can_change(change, behind, ("go", 0, 1)), True)
        self.assertEqual(caught(change, state), ())
        self.assertEqual(moved_first(change, state), {0})
        # Meanwhile nobody else enters its channel.
        self.assertIs(can_change(change, state, ("put", 0, 3, 0)), False)

    def test_states_are_not_changed(self):
        state = changed_by(CHANGE, STATE, ("go", 0, 2))
        self.assertEqual(state, ((1,), (7, ((), (), ((3, 2),), (), ((5, 2),), ((6, 1),)))))
        self.assertEqual(STATE[1][1][0], ((3, 2),))


class PlayTest(unittest.TestCase):
    def test_drawn_scripts(self):
        for change in SMALL_CHANGES:
            for seed in range(3):
                script, states = drawn_change_script(change, seed)
                self.assertEqual(play_change(change, states[0], script), states[-1])
                half = len(script) // 2
                self.assertEqual(play_change(change, states[half], script[half:]), states[-1])

    def test_the_empty_script(self):
        for state in (STATE, change_start(CHANGE)):
            self.assertEqual(play_change(CHANGE, state, ()), state)

    def test_the_first_step_that_is_not_possible(self):
        wrong_steps = (("switch", 1), ("go", 9, 9), ("put", 9, 9, 9), ("out", 9), ("switch", 9), ("go", 0, 1))
        for seed in range(6):
            script, states = drawn_change_script(CHANGE, seed, 20)
            for k in range(len(script) + 1):
                for wrong in wrong_steps:
                    if wrong not in plain_change_steps(CHANGE, states[k]):
                        for rest in ((), (wrong,), script[k:]):
                            with self.assertRaises(NotPossible) as caught_error:
                                play_change(CHANGE, states[0], script[:k] + (wrong,) + rest)
                            self.assertEqual(caught_error.exception.number, k)
                            self.assertIsInstance(caught_error.exception, FabricError)

    def test_a_node_switches_once(self):
        with self.assertRaises(NotPossible) as caught_error:
            play_change(CHANGE, change_start(CHANGE), (("switch", 2), ("switch", 0), ("switch", 2)))
        self.assertEqual(caught_error.exception.number, 2)
        state = play_change(CHANGE, change_start(CHANGE), (("switch", 2), ("switch", 0), ("switch", 1)))
        self.assertEqual(state, ((0, 1, 2), (0, ((),) * 6)))

    def test_the_table_changes_with_the_switch(self):
        script = (("put", 0, 2, 0), ("out", 0))
        with self.assertRaises(NotPossible) as caught_error:
            play_change(CHANGE, change_start(CHANGE), script)
        self.assertEqual(caught_error.exception.number, 1)
        script = (("put", 0, 2, 0), ("switch", 0), ("put", 0, 2, 4), ("out", 4), ("go", 0, 2), ("out", 2))
        self.assertEqual(play_change(CHANGE, change_start(CHANGE), script), ((0,), (2, ((),) * 6)))


class CaseTest(unittest.TestCase):
    def test_the_example(self):
        self.assertEqual(verdict(change_case(CHANGE)), ("knot", ((0, 2), (2, 0), (5, 1))))
        # None of the tables has a knot by itself.
        for table in (OLD, NEW):
            self.assertEqual(verdict((NETWORK, table, table))[0], "ranks")

    def test_network_union_and_new_table(self):
        for change in SMALL_CHANGES + (CHANGE,):
            network, old, new = change
            self.assertEqual(change_case(change), (network, union_table(old, new), new))
            self.assertIs(is_case(change_case(change)), True)

    def test_no_change(self):
        for fabric in (RING3, CHAIN4, DOUBLE, ring(5)):
            self.assertEqual(change_case(fabric + fabric[1:]), fabric + fabric[1:])


def numbers_of(state):
    return [number for queue in state[1][1] for number, _ in queue]


class HomeTest(unittest.TestCase):
    def check(self, change, state, ranks):
        script = home_script(change, state, ranks)
        self.assertIsInstance(script, tuple)
        left = tuple(("switch", u) for u in range(change[0][0]) if u not in state[0])
        self.assertEqual(script[:len(left)], left)
        now = play_change(change, state, left)
        self.assertEqual(now[0], tuple(range(change[0][0])))
        for step in script[len(left):]:
            # The packets are drained as in [6.9].
            queues = now[1][1]
            c = min((rank, c) for c, rank in enumerate(ranks) if queues[c])[1]
            u, d = change[0][1][c][1], queues[c][0][1]
            if u == d:
                self.assertEqual(step, ("out", c))
            else:
                option = [option for option in change[2][u][d] if ranks[option] < ranks[c]][0]
                self.assertEqual(step, ("go", c, option))
            self.assertIn(step, plain_change_steps(change, now))
            now = plain_changed(change, now, step)
        self.assertEqual(now, (tuple(range(change[0][0])), (state[1][0], ((),) * len(change[0][1]))))
        return len(script) - len(left)

    def test_from_drawn_states(self):
        steps, seen = 0, 0
        for change in SMALL_CHANGES + tuple(small_change(seed) for seed in range(80, 200)):
            ranks = least_ranks(change_case(change))
            if ranks is not None:
                for state in change_states(change):
                    steps += self.check(change, state, ranks)
                    self.check(change, state, tuple(3 * rank + c % 3 for c, rank in enumerate(ranks)))
                    self.assertEqual(caught(change, state), ())
                    seen += 1
        self.assertTrue(steps > 500 and seen > 100, (steps, seen))

    def test_nodes_that_have_switched_do_not_do_so_again(self):
        change = (CHAIN4[0], CHAIN4[1], CHAIN4[1])
        state = ((1, 3), (2, (((1, 3),), (), ((0, 3),))))
        self.assertEqual(
            home_script(change, state, (2, 1, 0)),
            (("switch", 0), ("switch", 2), ("out", 2), ("go", 0, 1), ("go", 1, 2), ("out", 2)),
        )
        self.assertEqual(home_script(change, ((0, 1, 2, 3), state[1]), (2, 1, 0))[0], ("out", 2))
        self.assertEqual(home_script(change, ((0, 1, 2, 3), (5, ((), (), ()))), (2, 1, 0)), ())
        self.assertEqual(home_script(change, ((), (0, ((), (), ()))), (2, 1, 0)),
            tuple(("switch", u) for u in range(4)))


class JamTest(unittest.TestCase):
    def check(self, change, knot):
        """The packets of the knot are put and stuck; returns how many are put by the old table, and by the new one."""
        network, old, _ = change
        channels = network[1]
        script = jam_script(change, knot)
        self.assertIsInstance(script, tuple)
        early = [(c, d) for c, d in knot if c in old[channels[c][0]][d]]
        late = [pair for pair in knot if pair not in early]
        puts = [[("put", channels[c][0], d, c) for c, d in some for _ in range(channels[c][2])] for some in (early,
            late)]
        self.assertEqual(script, tuple(puts[0] + [("switch", u) for u in range(network[0])] + puts[1]))
        state = play_change(change, change_start(change), script)
        self.assertEqual(state[0], tuple(range(network[0])))
        goals = dict(knot)
        for c, queue in enumerate(state[1][1]):
            self.assertEqual([d for _, d in queue], [goals[c]] * channels[c][2] if c in goals else [])
        self.assertEqual(caught(change, state), tuple(c for c, _ in knot))
        self.stay_stuck(change, state)
        return len(early), len(late)

    def stay_stuck(self, change, state):
        before = state[1][1]
        rng = random.Random(3)
        for _ in range(20):
            steps = plain_change_steps(change, state)
            if steps:
                state = plain_changed(change, state, rng.choice(steps))
            for queue, was in zip(state[1][1], before):
                self.assertEqual(queue[:len(was)], was)

    def test_the_example(self):
        script = jam_script(CHANGE, ((0, 2), (2, 0), (5, 1)))
        self.assertEqual(script, (
            ("put", 0, 2, 0), ("put", 1, 0, 2), ("switch", 0), ("switch", 1), ("switch", 2), ("put", 2, 1, 5),
        ))
        self.assertEqual(self.check(CHANGE, ((0, 2), (2, 0), (5, 1))), (2, 1))

    def test_knots_of_drawn_changeovers(self):
        early, late, both = 0, 0, 0
        for seed in range(200):
            change = small_change(seed)
            case = change_case(change)
            for knot in (greatest_knot(case), tight_knot(case)):
                if knot is not None:
                    counts = self.check(change, knot)
                    early += counts[0] > 0
                    late += counts[1] > 0
                    both += min(counts) > 0
        self.assertTrue(min(early, late, both) > 15, (early, late, both))


class CaughtTest(unittest.TestCase):
    def test_by_the_words(self):
        some_switched, none = 0, 0
        for change in SMALL_CHANGES:
            everybody = tuple(range(change[0][0]))
            for state in change_states(change):
                # Stuck behind the switching of all nodes.
                moved = moved_first(change, (everybody, state[1]))
                if moved is not None:
                    right = tuple(c for c, queue in enumerate(state[1][1]) if queue and c not in moved)
                    self.assertEqual(caught(change, state), right)
                    some_switched += right != () and 0 < len(state[0]) < change[0][0]
                    none += right == () and numbers_of(state) != []
        self.assertTrue(some_switched > 20 and none > 20, (some_switched, none))

    def test_caught_but_not_stuck(self):
        # By the old table a packet at the node 1 for 2 has a channel of its own; by the new one all go round.
        network = (3, ((0, 1, 1), (1, 2, 1), (2, 0, 1), (1, 2, 1)))
        new = table_of(3, {(0, 1): (0,), (0, 2): (0,), (1, 2): (1,), (1, 0): (1,), (2, 0): (2,), (2, 1): (2,)})
        change = (network, put_at(new, (1, 2), (3,)), new)
        self.assertIs(is_changeover(change), True)
        full = (3, (((0, 2),), ((1, 0),), ((2, 1),), ()))
        for switched in ((), (0,), (2,), (0, 2)):
            self.assertEqual(caught(change, (switched, full)), (0, 1, 2))
            self.assertEqual(moved_first(change, (switched, full)), {0, 1, 2})
        for switched in ((1,), (0, 1), (1, 2), (0, 1, 2)):
            self.assertEqual(caught(change, (switched, full)), (0, 1, 2))
            self.assertEqual(moved_first(change, (switched, full)), set())
        # With a packet less nobody is caught.
        self.assertEqual(caught(change, ((1,), put_at(full, (1, 0), ()))), ())

    def test_a_packet_that_is_stuck_is_caught(self):
        seen = 0
        for change in SMALL_CHANGES:
            for state in change_states(change):
                moved = moved_first(change, state)
                if moved is not None:
                    stuck = {c for c, queue in enumerate(state[1][1]) if queue} - moved
                    self.assertLessEqual(stuck, set(caught(change, state)))
                    seen += len(stuck)
        self.assertGreater(seen, 20)

    def test_exactly_one_of_ranks_and_a_knot(self):
        words = {}
        for change in SMALL_CHANGES:
            word = verdict(change_case(change))[0]
            words[word] = words.get(word, 0) + 1
            if word == "ranks":
                for state in change_states(change):
                    self.assertEqual(caught(change, state), ())
        self.assertGreater(min(words.values()), 15)

    def test_full_channels_of_the_old_table(self):
        # Placements that only the old table has go on by the new one.
        for change in SMALL_CHANGES:
            network, old, new = change
            only_old = [(c, d) for c, d in placements((network, old)) if c not in new[network[1][c][0]][d]]
            for c, d in only_old:
                state = ((), (1, put_at(empty_state((network, old))[1], (c,), ((0, d),))))
                self.assertIn((c, d), case_placements(change_case(change)))
                home = network[1][c][1] == d
                self.assertIs(home, present(change, range(network[0]), network[1][c][1], d) == ())
                self.assertEqual(caught(change, state), ())


if __name__ == "__main__":
    unittest.main()
