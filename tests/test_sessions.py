import random
import unittest

from change_samples import CHANGE
from samples import CHAIN4, DOUBLE, MIXED, PAIR, RING3, greatest, plain_dead_ends, put_at, ring, table_of
from test_edits import plain_edited
from verdict_samples import plain_knot_sets, plain_stages, twice
from worlds import EXAMPLE, TORUS, World, plain_after, plain_possible, small_fabric
from worm_samples import RANKED, fitting_knot

from calmfabric.blocked import blocked, greatest_jam, is_way_out
from calmfabric.cases import case_of
from calmfabric.drains import drain, knot_script
from calmfabric.networks import is_fabric
from calmfabric.packets import is_state
from calmfabric.sessions import Session
from calmfabric.texts import print_fabric
from calmfabric.verdicts import is_knot, tight_knot, verdict
from calmfabric.wording import print_knot, print_step, read_script
from calmfabric.wormknots import is_worm_knot

SMALL = (RING3, PAIR, CHAIN4, EXAMPLE, DOUBLE, MIXED) + tuple(small_fabric(seed) for seed in range(40))
KNOT_LINES = ["put 0 2 0", "put 1 0 1", "put 2 1 2"]
BAD_LINES = (
    "", " ", "  ", "State", "STATE", "states", "stat", "state ", " state", "state  ", "state 1", "blocked 0", "jam jam",
    "way", "way  0",
    "way 0 1", "way 00", "way 01", "way -1", "way +1", "way x", "way 12345678", "way 00000000", "verdict ranks",
    "verdicts",
    "tight 1", "drain 0", "worms", "worms 1 2", "worms 0", "worms 00", "worms 01", "worms 1000001", "worms 9999999",
    "worms 10000000",
    "worms -1", "worms one", "add", "add 0 1", "add 0 1 0 0", "add 0 1 x", "add 0 1 00", "add 00 1 0",
    "add 0 1 10000000",
    "drop", "drop 0 1", "drop 0 1 0 0", "drop 0  1 0", "drop 0 1 -1", "undo 1", "undo undo", "text 0", "texts", "bad",
    "ok", "no",
    "nothing", "put", "put 0 1", "put 0 1 0 0", "put 0 1 00", "put 0 01 0", "put 0 1 0 ", " put 0 1 0",
    "put 0 1 10000000",
    "put 0 1 -1", "go", "go 0", "go 0 1 2", "go 0  1", "go 0 x", "go 0,1", "out", "out 0 1", "out 00", "out 10000000",
    "out 1;",
    "out 0; out 0", "pull 0 1", "open 0 1", "feed 0", "take 0", "switch 0", "journal", "fabric", "0", "1 2 3",
    "count 0", "~", "!",
    "way 1e3", "out 1_0", "add 0 1 0;", "drop -1 0 0", "x" * 10 ** 5, "out " + "1" * 10 ** 5, "way " + " " * 10 ** 4,
)


def entered(fabric, lines):
    session = Session(fabric)
    for line in lines:
        session.enter(line)
    return session


def listed(word, things):
    return " ".join([word] + [str(thing) for thing in things])


class PlainSession:
    """A session by the words of [13.2]; worm knots and ways out are only asked whether there is one."""

    def __init__(self, fabric):
        self.past = [(fabric, (0, ((),) * len(fabric[0][1])))]
        self.lines = []

    def now(self):
        return self.past[-1]

    def change(self, fabric, state, line, answer):
        if (fabric, state) != self.now():
            self.past.append((fabric, state))
            self.lines.append(line)
        return [answer]

    def enter(self, line):
        fabric, state = self.now()
        word, *numbers = line.split(" ")
        numbers = [int(number) for number in numbers]
        if word in ("put", "go", "out"):
            step = (word,) + tuple(numbers)
            if step not in plain_possible(fabric, state):
                return ["no"]
            return self.change(fabric, plain_after(fabric, state, step), line, "ok")
        if word == "undo":
            if len(self.past) == 1:
                return ["nothing"]
            self.past.pop()
            self.lines.pop()
            return ["ok"]
        if word in ("add", "drop"):
            return self.edit(word, numbers, line)
        if word == "drain":
            stages = plain_stages(twice(fabric))
            if len(stages) < len(state[1]):
                return ["no"]
            script = drain(fabric, state, tuple(stages[c] for c in range(len(state[1]))))
            for step in script:
                state = plain_after(fabric, state, step)
            return self.change(fabric, state, line, f"drained {len(script)}")
        return self.ask(fabric, state, word, numbers)

    def edit(self, word, numbers, line):
        fabric, state = self.now()
        (n, channels), table = fabric
        u, d, c = numbers
        if u >= n or d >= n or c >= len(channels) or u == d or channels[c][0] != u:
            return ["bad"]
        new = plain_edited(table, ((word, u, d, c),), (0,))
        ends = plain_dead_ends(fabric[0], new)
        if ends:
            return [listed("no end", min(ends))]
        misplaced = [
            number for k, queue in enumerate(state[1]) for number, goal in queue if k not in new[channels[k][0]][goal]
        ]
        if misplaced:
            return [f"no packet {min(misplaced)}"]
        return self.change((fabric[0], new), state, line, "ok")

    def ask(self, fabric, state, word, numbers):
        if word == "state":
            rows = [listed(f"{c}:", [f"{k}>{d}" for k, d in queue]) for c, queue in enumerate(state[1]) if queue]
            return [f"count {state[0]}"] + rows
        if word == "blocked":
            found = blocked(fabric, state)
            return [listed("blocked", found) if found else "calm"]
        if word == "jam":
            return [listed("jam", greatest_jam(fabric, state))]
        if word == "way":
            if numbers[0] >= len(state[1]):
                return ["bad"]
            if not state[1][numbers[0]]:
                return ["empty"]
            return [listed("stop", greatest_jam(fabric, state)) if numbers[0] in blocked(fabric, state) else "way"]
        if word in ("verdict", "tight"):
            kind, told = verdict(case_of(fabric))
            if kind == "ranks":
                return [listed("ranks", told if word == "verdict" else ())]
            return ["knot " + print_knot(told if word == "verdict" else tight_knot(case_of(fabric)))]
        if word == "worms":
            return ["none" if fitting_knot(fabric, numbers[0]) is None else "knot"]
        return print_fabric(fabric).split("\n")


def drawn_line(rng, session):
    """A line of one of the forms; more often one that changes something."""
    fabric, state = session.fabric(), session.state()
    n, m = fabric[0][0], len(fabric[0][1])
    kind = rng.choice(("step", "step", "step", "edit", "edit", "any", "undo", "ask", "ask", "number"))
    steps = plain_possible(fabric, state)
    if kind == "step" and steps:
        return print_step(rng.choice(steps))
    if kind == "edit":
        c = rng.randrange(m)
        return f"{rng.choice(('add', 'drop'))} {fabric[0][1][c][0]} {rng.randrange(n)} {c}"
    if kind == "undo":
        return rng.choice(("undo", "undo", "drain"))
    if kind == "ask":
        return rng.choice(("state", "blocked", "jam", "verdict", "tight", "text", "worms 1", "worms 3",
            "worms 1000000"))
    if kind == "number":
        return rng.choice(("way {}", "out {}")).format(rng.randrange(m + 2))
    word = rng.choice(("put", "go", "add", "drop"))
    return " ".join([word] + [str(rng.randrange(max(n, m) + 2)) for _ in range(2 if word == "go" else 3)])


class DrawnTest(unittest.TestCase):
    def test_against_the_words(self):
        words, answers = {}, {}
        for fabric in SMALL:
            for seed in range(3):
                rng = random.Random(seed)
                session, plain = Session(fabric), PlainSession(fabric)
                for _ in range(45):
                    line = drawn_line(rng, session)
                    before = (session.fabric(), session.state())
                    answer, right = session.enter(line), plain.enter(line)
                    self.check(before, line, answer, right)
                    self.assertEqual((session.fabric(), session.state()), plain.now())
                    self.assertEqual(session.journal(), plain.lines)
                    key = line.split(" ")[0]
                    words[key] = words.get(key, 0) + 1
                    answers[key, right[0].split(" ")[0]] = answers.get((key, right[0].split(" ")[0]), 0) + 1
                self.assertIs(is_fabric(session.fabric()), True)
                self.assertIs(is_state(session.fabric(), session.state()), True)
        self.assertGreater(min(words.values()), 40, words)
        for key in (
            ("put", "ok"), ("put", "no"), ("go", "ok"), ("go", "no"), ("out", "ok"), ("out", "no"), ("way", "way"),
            ("way", "empty"),
            ("way", "stop"), ("way", "bad"), ("blocked", "calm"), ("blocked", "blocked"), ("verdict", "ranks"),
            ("verdict", "knot"),
            ("tight", "ranks"), ("tight", "knot"), ("drain", "drained"), ("drain", "no"), ("worms", "knot"),
            ("worms", "none"),
            ("add", "ok"), ("add", "no"), ("add", "bad"), ("drop", "ok"), ("drop", "no"), ("drop", "bad"),
            ("undo", "ok"), ("undo", "nothing"),
        ):
            self.assertGreater(answers.get(key, 0), 0, key)

    def check(self, before, line, answer, right):
        fabric, state = before
        self.assertIsInstance(answer, list)
        self.assertTrue(all(type(told) is str for told in answer))
        if right == ["way"]:
            # Which way out it is, is not promised.
            self.assertEqual(len(answer), 1)
            self.assertEqual(answer[0][:4], "way ")
            self.assertIs(is_way_out(fabric, state, int(line.split(" ")[1]), read_script(answer[0][4:])), True)
        elif right == ["knot"]:
            self.assertEqual(answer[0][:5], "knot ")
            knot = read_worm_knot(answer[0][5:])
            self.assertIs(is_worm_knot(fabric, int(line.split(" ")[1]), knot), True)
        else:
            self.assertEqual(answer, right, line)

    def test_the_journal_played_again(self):
        lengths = []
        for fabric in SMALL:
            for seed in range(3, 6):
                rng = random.Random(seed)
                session = Session(fabric)
                for _ in range(60):
                    session.enter(drawn_line(rng, session))
                again = Session(fabric)
                for line in session.journal():
                    before = (again.fabric(), again.state())
                    answer = again.enter(line)
                    self.assertTrue(answer == ["ok"] or answer[0].startswith("drained "), (line, answer))
                    self.assertNotEqual((again.fabric(), again.state()), before)
                self.assertEqual(again.fabric(), session.fabric())
                self.assertEqual(again.state(), session.state())
                self.assertEqual(again.journal(), session.journal())
                lengths.append(len(session.journal()))
        self.assertGreater(sum(lengths), 1000)

    def test_taking_back_everything(self):
        for fabric in SMALL:
            rng = random.Random(9)
            session = Session(fabric)
            seen = [(session.fabric(), session.state())]
            for _ in range(40):
                line = drawn_line(rng, session)
                if line != "undo":
                    session.enter(line)
                    if len(session.journal()) == len(seen):
                        seen.append((session.fabric(), session.state()))
            while len(seen) > 1:
                self.assertEqual((session.fabric(), session.state()), seen.pop())
                self.assertEqual(session.enter("undo"), ["ok"])
            self.assertEqual((session.fabric(), session.state()), (fabric, (0, ((),) * len(fabric[0][1]))))
            self.assertEqual(session.journal(), [])
            self.assertEqual(session.enter("undo"), ["nothing"])
            self.assertEqual(session.enter("undo"), ["nothing"])


def read_worm_knot(text):
    pairs = [pair.split(":") for pair in text.split(" ")]
    return tuple((int(d), tuple(int(c) for c in way.split("-"))) for d, way in pairs)


class LineTest(unittest.TestCase):
    def test_a_new_session(self):
        for fabric in SMALL + (TORUS, greatest()):
            session = Session(fabric)
            self.assertEqual(session.fabric(), fabric)
            self.assertEqual(session.state(), (0, ((),) * len(fabric[0][1])))
            self.assertEqual(session.journal(), [])
            self.assertEqual(session.enter("state"), ["count 0"])
            self.assertEqual(session.enter("blocked"), ["calm"])
            self.assertEqual(session.enter("jam"), ["jam"])
            self.assertEqual(session.enter("way 0"), ["empty"])
            self.assertEqual(session.enter("text"), print_fabric(fabric).split("\n"))
            self.assertEqual(session.journal(), [])

    def test_lines_of_no_form(self):
        for fabric in (PAIR, RING3):
            session = entered(fabric, ["put 0 1 0"])
            before = (session.fabric(), session.state())
            for line in BAD_LINES:
                self.assertEqual(session.enter(line), ["bad"], line)
                self.assertEqual((session.fabric(), session.state()), before)
            self.assertEqual(session.journal(), ["put 0 1 0"])

    def test_steps(self):
        session = Session(PAIR)
        for line, answer in (
            ("put 0 1 0", "ok"), ("put 0 1 1", "no"), ("put 1 1 0", "no"), ("put 2 1 0", "no"), ("put 0 2 0", "no"),
            ("put 0 1 2", "no"),
            ("put 9999999 1 0", "no"), ("put 0 1 9999999", "no"), ("go 0 1", "no"), ("go 1 0", "no"), ("go 2 0", "no"),
            ("go 0 2", "no"),
            ("go 9999999 9999999", "no"), ("out 1", "no"), ("out 2", "no"), ("out 9999999", "no"), ("put 0 1 0", "ok"),
            ("put 0 1 0", "ok"), ("put 0 1 0", "no"), ("out 0", "ok"), ("put 0 0 0", "no"),
        ):
            self.assertEqual(session.enter(line), [answer], line)
        self.assertEqual(session.state(), (3, (((1, 1), (2, 1)), ())))
        self.assertEqual(session.enter("state"), ["count 3", "0: 1>1 2>1"])
        self.assertEqual(session.journal(), ["put 0 1 0", "put 0 1 0", "put 0 1 0", "out 0"])

    def test_all_steps_against_a_world(self):
        for fabric in SMALL[:20]:
            session, world = Session(fabric), World(fabric)
            rng = random.Random(2)
            for _ in range(30):
                steps = plain_possible(fabric, world.state())
                if not steps:
                    break
                step = rng.choice(steps)
                world.do(step)
                self.assertEqual(session.enter(print_step(step)), ["ok"])
                self.assertEqual(session.state(), world.state())

    def test_state(self):
        session = entered(RING3, KNOT_LINES)
        self.assertEqual(session.enter("state"), ["count 3", "0: 0>2", "1: 1>0", "2: 2>1"])
        session = entered(DOUBLE, ["put 0 1 1"] * 12 + ["out 1"] * 10 + ["put 1 0 2"])
        self.assertEqual(session.enter("state"), ["count 13", "1: 10>1 11>1", "2: 12>0"])

    def test_blocked_jam_and_way(self):
        session = entered(RING3, KNOT_LINES)
        self.assertEqual(session.enter("blocked"), ["blocked 0 1 2"])
        self.assertEqual(session.enter("jam"), ["jam 0 1 2"])
        for c in range(3):
            self.assertEqual(session.enter(f"way {c}"), ["stop 0 1 2"])
        for c in (3, 4, 399, 9999999):
            self.assertEqual(session.enter(f"way {c}"), ["bad"])
        session.enter("undo")
        self.assertEqual(session.enter("blocked"), ["calm"])
        self.assertEqual(session.enter("jam"), ["jam"])
        self.assertEqual(session.enter("way 2"), ["empty"])
        self.assertEqual(session.enter("way 1"), ["way go 1 2"])
        self.assertEqual(session.enter("way 0"), ["way go 1 2; go 0 1"])
        self.assertEqual(session.journal(), KNOT_LINES[:2])
        session = entered(CHAIN4, ["put 2 3 2", "put 1 3 1"])
        self.assertEqual(session.enter("way 2"), ["way out 2"])
        self.assertEqual(session.enter("way 1"), ["way out 2; go 1 2"])

    def test_a_channel_that_waits_for_a_jam(self):
        # It is blocked, but not a part of the jam.
        network = (4, ((0, 1, 1), (1, 2, 1), (2, 0, 1), (3, 0, 2)))
        table = table_of(4, {**{(u, d): (u,) for u in range(3) for d in range(3) if u != d}, (3, 1): (3,)})
        session = entered((network, table), KNOT_LINES + ["put 3 1 3"])
        self.assertEqual(session.enter("blocked"), ["blocked 0 1 2 3"])
        self.assertEqual(session.enter("jam"), ["jam 0 1 2"])
        self.assertEqual(session.enter("way 3"), ["stop 0 1 2"])

    def test_verdict_and_tight(self):
        session = Session(RING3)
        self.assertEqual(session.enter("verdict"), ["knot 0>2 1>0 2>1"])
        self.assertEqual(session.enter("tight"), ["knot 0>2 1>0 2>1"])
        self.assertEqual(session.enter("drop 2 1 2"), ["ok"])
        self.assertEqual(session.enter("verdict"), ["ranks 2 1 0"])
        self.assertEqual(session.enter("tight"), ["ranks"])
        # Two rings; the greatest knot has all of their channels, the tight one those of the second.
        rings = (
            (5, ((0, 1, 1), (1, 0, 1), (2, 3, 1), (3, 2, 1))),
            table_of(5, {(0, 4): (0,), (1, 4): (1,), (2, 4): (2,), (3, 4): (3,)}),
        )
        session = Session(rings)
        self.assertEqual(session.enter("verdict"), ["knot 0>4 1>4 2>4 3>4"])
        self.assertEqual(session.enter("tight"), ["knot 2>4 3>4"])
        for fabric in SMALL:
            told = Session(fabric).enter("tight")[0].split(" ")[1:]
            knot = tuple(tuple(int(number) for number in pair.split(">")) for pair in told)
            sets = plain_knot_sets(twice(fabric))
            self.assertIs(knot == (), sets == [])
            self.assertIs(knot != () and not is_knot(case_of(fabric), knot), False)

    def test_drain(self):
        session = entered(CHAIN4, ["put 0 3 0", "put 1 3 1", "put 2 3 2"])
        self.assertEqual(session.enter("drain"), ["drained 6"])
        self.assertEqual(session.state(), (3, ((), (), ())))
        # Without packets there is nothing to drain, so nothing has changed.
        self.assertEqual(session.enter("drain"), ["drained 0"])
        self.assertEqual(session.journal(), ["put 0 3 0", "put 1 3 1", "put 2 3 2", "drain"])
        self.assertEqual(session.enter("undo"), ["ok"])
        self.assertEqual(session.state(), (3, (((0, 3),), ((1, 3),), ((2, 3),))))
        self.assertEqual(Session(CHAIN4).enter("drain"), ["drained 0"])
        for lines in ([], KNOT_LINES[:1]):
            session = entered(RING3, lines)
            before = session.state()
            self.assertEqual(session.enter("drain"), ["no"])
            self.assertEqual((session.state(), session.journal()), (before, lines))

    def test_worms(self):
        session = Session(RING3)
        for longest in (1, 2, 1000000):
            self.assertEqual(session.enter(f"worms {longest}"), ["knot 0:1 1:2 2:0"])
        for longest in (0, 1000001, 9999999, 10000000):
            self.assertEqual(session.enter(f"worms {longest}"), ["bad"])
        session = Session(RANKED[5])
        self.assertEqual(session.enter("worms 6"), ["none"])
        self.assertEqual(session.enter("worms 7"), ["knot 3:1-7-0"])
        self.assertEqual(session.enter("worms 1"), ["none"])
        self.assertEqual(Session(CHAIN4).enter("worms 1000000"), ["none"])

    def test_text(self):
        session = Session(PAIR)
        right = ["nodes 2", "channel 0 1 3", "channel 1 0 3", "at 0 to 1 : 0", "at 1 to 0 : 1"]
        self.assertEqual(session.enter("text"), right)
        self.assertEqual(session.enter("drop 1 0 1"), ["ok"])
        self.assertEqual(session.enter("text"), right[:4])
        session.enter("undo")
        self.assertEqual(session.enter("text"), right)


class EditTest(unittest.TestCase):
    def test_numbers_that_are_none(self):
        session = Session(MIXED)
        n, channels = MIXED[0]
        for word in ("add", "drop"):
            for u in range(n + 2):
                for d in range(n + 2):
                    for c in range(len(channels) + 2):
                        right = u < n and d < n and c < len(channels) and u != d and channels[c][0] == u
                        answer = session.enter(f"{word} {u} {d} {c}")
                        self.assertIs(answer == ["bad"], not right, (word, u, d, c))
                        while session.journal():
                            session.enter("undo")
        for line in ("add 9999999 1 0", "add 0 9999999 1", "add 0 1 9999999", "drop 1 1 2", "drop 1 0 0"):
            self.assertEqual(session.enter(line), ["bad"])
        self.assertEqual(session.fabric(), MIXED)

    def test_dead_ends(self):
        session = Session(CHAIN4)
        # Behind the node 3 there is nothing for other goals; without channel 1 or 2 a packet for 3 comes to an end.
        self.assertEqual(session.enter("drop 2 3 2"), ["no end 1 3 1"])
        self.assertEqual(session.enter("drop 1 3 1"), ["no end 0 3 0"])
        self.assertEqual(session.enter("drop 0 3 0"), ["ok"])
        self.assertEqual(session.enter("drop 1 3 1"), ["ok"])
        self.assertEqual(session.enter("add 0 3 0"), ["no end 0 3 0"])
        self.assertEqual(session.enter("add 0 2 0"), ["no end 0 2 0"])
        self.assertEqual(session.enter("add 0 1 0"), ["ok"])
        self.assertEqual(session.journal(), ["drop 0 3 0", "drop 1 3 1", "add 0 1 0"])
        # The first of several dead ends.
        network = (4, ((0, 1, 1), (2, 1, 1), (1, 3, 1), (0, 1, 1)))
        session = Session((network, table_of(4, {(0, 3): (0, 3), (2, 3): (1,), (1, 3): (2,)})))
        self.assertEqual(session.enter("drop 1 3 2"), ["no end 0 3 0"])
        session.enter("drop 0 3 0")
        self.assertEqual(session.enter("drop 1 3 2"), ["no end 0 3 3"])
        session.enter("drop 0 3 3")
        self.assertEqual(session.enter("drop 1 3 2"), ["no end 2 3 1"])

    def test_a_dead_end_comes_before_a_packet(self):
        session = entered(CHAIN4, ["put 1 3 1"])
        self.assertEqual(session.enter("drop 1 3 1"), ["no end 0 3 0"])
        self.assertEqual(session.enter("drop 0 3 0"), ["ok"])
        self.assertEqual(session.enter("drop 1 3 1"), ["no packet 0"])
        self.assertEqual(session.fabric()[1], put_at(CHAIN4[1], (0, 3), ()))

    def test_packets_in_the_way(self):
        # Channel 1 has the packets 2 to 4 for the node 1; channel 0 has 5.
        lines = ["put 0 1 1", "put 0 1 1", "put 0 1 1", "put 0 1 1", "put 0 1 1", "out 1", "out 1", "put 0 1 0"]
        session = entered(DOUBLE, lines)
        before = session.state()
        self.assertEqual(session.enter("drop 0 1 1"), ["no packet 2"])
        self.assertEqual(session.enter("drop 0 1 0"), ["no packet 5"])
        self.assertEqual((session.fabric(), session.state(), session.journal()), (DOUBLE, before, lines))
        for number in (3, 4):
            session.enter("out 1")
            self.assertEqual(session.enter("drop 0 1 1"), [f"no packet {number}"])
        session.enter("out 1")
        self.assertEqual(session.enter("drop 0 1 1"), ["ok"])
        # For another goal they are not in the way; the least number need not be in the first channel.
        network = (3, ((0, 1, 2), (0, 1, 2), (1, 2, 2)))
        fabric = (network, table_of(3, {(0, 1): (0, 1), (0, 2): (0,), (1, 2): (2,)}))
        session = entered(fabric, ["put 0 1 1", "put 0 2 0", "put 0 1 0", "put 0 1 1"])
        self.assertEqual(session.enter("drop 0 1 0"), ["no packet 2"])
        self.assertEqual(session.enter("drop 0 2 0"), ["no packet 1"])
        self.assertEqual(session.enter("drop 0 1 1"), ["no packet 0"])

    def test_the_least_number_in_a_channel(self):
        # A packet may come in behind one with a greater number.
        network = (3, ((0, 1, 3), (1, 2, 3)))
        fabric = (network, table_of(3, {(0, 2): (0,), (1, 2): (1,)}))
        session = entered(fabric, ["put 0 2 0", "put 1 2 1", "go 0 1", "drop 0 2 0"])
        self.assertEqual(session.enter("state"), ["count 2", "1: 1>2 0>2"])
        self.assertEqual(session.enter("drop 1 2 1"), ["no packet 0"])

    def test_options_that_are_there_already_or_not_there(self):
        session = Session(DOUBLE)
        for line in ("add 0 1 0", "add 0 1 1", "add 1 0 2", "drop 0 2 0", "drop 1 2 2"):
            self.assertEqual(session.enter(line), ["ok"])
        self.assertEqual((session.fabric(), session.journal()), (DOUBLE, []))
        self.assertEqual(session.enter("undo"), ["nothing"])
        # With a packet there, too.
        session.enter("put 0 1 1")
        self.assertEqual(session.enter("add 0 1 1"), ["ok"])
        self.assertEqual(session.journal(), ["put 0 1 1"])
        self.assertEqual(session.enter("drop 0 1 0"), ["ok"])
        self.assertEqual(session.enter("drop 0 1 0"), ["ok"])
        self.assertEqual(session.journal(), ["put 0 1 1", "drop 0 1 0"])

    def test_what_an_edit_changes(self):
        session = Session(RING3)
        self.assertEqual(session.enter("drop 0 2 0"), ["ok"])
        self.assertEqual(session.fabric(), (RING3[0], put_at(RING3[1], (0, 2), ())))
        self.assertEqual(session.enter("put 0 2 0"), ["no"])
        self.assertEqual(session.enter("add 0 2 0"), ["ok"])
        self.assertEqual(session.fabric(), RING3)
        self.assertEqual(session.enter("put 0 2 0"), ["ok"])
        self.assertEqual(session.journal(), ["drop 0 2 0", "add 0 2 0", "put 0 2 0"])
        self.assertEqual(Session(CHANGE[:2]).enter("add 0 2 4"), ["ok"])


class UndoTest(unittest.TestCase):
    def test_after_each_kind_of_line(self):
        session = Session(CHAIN4)
        states = [(session.fabric(), session.state())]
        lines = ["put 2 3 2", "out 2", "put 0 3 0", "go 0 1", "put 0 3 0", "drain", "drop 0 3 0", "add 0 3 0",
            "put 1 3 1"]
        for line in lines:
            self.assertIn(session.enter(line)[0], ("ok", "drained 5"))
            states.append((session.fabric(), session.state()))
        self.assertEqual(session.journal(), lines)
        while len(states) > 1:
            self.assertEqual((session.fabric(), session.state()), states.pop())
            # Lines that change nothing are not taken back.
            for line in ("state", "jam", "go 5 5", "bad", "text", "verdict", "way 0", "blocked", "tight", "worms 1",
                    ""):
                session.enter(line)
            self.assertEqual(session.enter("undo"), ["ok"])
            self.assertEqual(session.journal(), lines[:len(states) - 1])
        self.assertEqual((session.fabric(), session.state()), states[0])
        self.assertEqual(session.enter("undo"), ["nothing"])
        self.assertEqual(session.enter("put 2 3 2"), ["ok"])
        self.assertEqual(session.state(), (1, ((), (), ((0, 3),))))

    def test_what_is_taken_back_is_not_taken_back_again(self):
        session = entered(PAIR, ["put 0 1 0", "put 1 0 1", "undo", "put 0 1 0", "undo", "undo"])
        self.assertEqual((session.state(), session.journal()), ((0, ((), ())), []))
        self.assertEqual(session.enter("undo"), ["nothing"])

    def test_numbers_begin_again(self):
        session = entered(PAIR, ["put 0 1 0", "undo", "put 1 0 1"])
        self.assertEqual(session.enter("state"), ["count 1", "1: 0>0"])


class ListTest(unittest.TestCase):
    def test_lists_that_a_caller_changes(self):
        session = entered(RING3, KNOT_LINES)
        for line in ("state", "blocked", "jam", "way 0", "verdict", "tight", "worms 2", "text", "", "put 0 2 0",
                "drain", "add 0 0 0"):
            first = session.enter(line)
            told = list(first)
            first.append("more")
            first[0] = "less"
            self.assertEqual(session.enter(line), told, line)
        lines = session.journal()
        lines.clear()
        self.assertEqual(session.journal(), KNOT_LINES)
        session.journal().append("put 0 1 0")
        self.assertEqual(session.enter("undo"), ["ok"])
        self.assertEqual(session.journal(), KNOT_LINES[:2])
        for line, answer in (("undo", ["ok"]), ("undo", ["ok"]), ("undo", ["nothing"]), ("undo", ["nothing"])):
            told = session.enter(line)
            self.assertEqual(told, answer)
            told.append("more")

    def test_sessions_are_apart(self):
        one, two = Session(PAIR), Session(PAIR)
        one.enter("put 0 1 0")
        one.enter("drop 1 0 1")
        self.assertEqual((two.state(), two.fabric(), two.journal()), ((0, ((), ())), PAIR, []))
        self.assertEqual(PAIR[1], (((), (0,)), ((1,), ())))

    def test_great_rooms(self):
        fabric = ring(3, 1000)
        session = Session(fabric)
        for step in knot_script(fabric[0], ((0, 2), (1, 0), (2, 1))):
            self.assertEqual(session.enter(print_step(step)), ["ok"])
        self.assertEqual(session.enter("blocked"), ["blocked 0 1 2"])
        self.assertEqual(len(session.journal()), 3000)


if __name__ == "__main__":
    unittest.main()
