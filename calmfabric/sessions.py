"""Sessions: a fabric and its packets are changed and asked about line by line."""

from calmfabric.blocked import blocked, greatest_jam, way_out
from calmfabric.cases import case_of
from calmfabric.drains import drain
from calmfabric.edits import edited, is_edit
from calmfabric.networks import dead_ends
from calmfabric.packets import after, empty_state, first_of, is_possible, is_state, packets_in, play
from calmfabric.texts import print_fabric
from calmfabric.verdicts import least_ranks, tight_knot, verdict
from calmfabric.wording import print_knot, print_packet, print_script, print_words, print_worm_knot, read_words
from calmfabric.wormknots import find_worm_knot
from calmfabric.worms import MAX_FLITS

BAD = ("bad",)
OK = ("ok",)
NO = ("no",)

# How many numbers stand behind the first word of a line.
FORMS = {
    "put": 3, "go": 2, "out": 1, "state": 0, "blocked": 0, "jam": 0, "way": 1, "verdict": 0, "tight": 0, "drain": 0,
    "worms": 1, "add": 3, "drop": 3, "undo": 0, "text": 0,
}


def tell_state(fabric, state, words):
    """Return the answer to a line that asks for the packets."""
    count, queues = state
    lines = [f"count {count}"]
    for c, queue in enumerate(queues):
        if queue:
            lines.append(print_words(f"{c}:", [print_packet(packet) for packet in queue]))
    return lines


def tell_blocked(fabric, state, words):
    """Return the answer to a line that asks for the blocked channels."""
    found = blocked(fabric, state)
    return [print_words("blocked", found) if found else "calm"]


def tell_jam(fabric, state, words):
    """Return the answer to a line that asks for the greatest jam."""
    return [print_words("jam", greatest_jam(fabric, state))]


def tell_way(fabric, state, words):
    """Return the answer to a line that asks how the first packet of a channel gets out."""
    c = words[1]
    if c >= len(state[1]):
        return list(BAD)
    if first_of(state, c) is None:
        return ["empty"]
    script = way_out(fabric, state, c)
    if script is None:
        return [print_words("stop", greatest_jam(fabric, state))]
    return [f"way {print_script(script)}"]


def tell_verdict(fabric, state, words):
    """Return the answer to a line that asks for ranks or a knot."""
    word, told = verdict(case_of(fabric))
    return [print_words("ranks", told) if word == "ranks" else f"knot {print_knot(told)}"]


def tell_tight(fabric, state, words):
    """Return the answer to a line that asks for the tight knot."""
    knot = tight_knot(case_of(fabric))
    return ["ranks" if knot is None else f"knot {print_knot(knot)}"]


def tell_worms(fabric, state, words):
    """Return the answer to a line that asks for a worm knot."""
    longest = words[1]
    if not 1 <= longest <= MAX_FLITS:
        return list(BAD)
    knot = find_worm_knot(fabric, longest)
    return ["none" if knot is None else f"knot {print_worm_knot(knot)}"]


def tell_text(fabric, state, words):
    """Return the lines of the text of the fabric."""
    return print_fabric(fabric).split("\n")


def make_step(fabric, state, words):
    """Return the answer to a step, and the fabric and the state behind it."""
    if not is_possible(fabric, state, words):
        return (NO, fabric, state)
    return (OK, fabric, after(fabric, state, words))


def make_empty(fabric, state, words):
    """Return the answer to a line that drains the fabric, and the fabric and the state behind it."""
    ranks = least_ranks(case_of(fabric))
    if ranks is None:
        return (NO, fabric, state)
    script = drain(fabric, state, ranks)
    return ((f"drained {len(script)}",), fabric, play(fabric, state, script))


def make_edit(fabric, state, words):
    """Return the answer to an edit of the table, and the fabric and the state behind it."""
    network, table = fabric
    if not is_edit(network, words):
        return (BAD, fabric, state)
    new = (network, edited(table, (words,), (0,)))
    ends = dead_ends(network, new[1])
    if ends:
        return ((print_words("no end", ends[0]),), fabric, state)
    if not is_state(new, state):
        return ((f"no packet {first_misplaced(new, state)}",), fabric, state)
    return (OK, new, state)


def first_misplaced(fabric, state):
    """Return the least number of a packet that is in a channel where the table has no option for it."""
    (_, channels), table = fabric
    return [number for number, d, c in packets_in(state) if c not in table[channels[c][0]][d]][0]


QUESTIONS = {
    "state": tell_state, "blocked": tell_blocked, "jam": tell_jam, "way": tell_way, "verdict": tell_verdict,
    "tight": tell_tight, "worms": tell_worms, "text": tell_text,
}
ORDERS = {
    "put": make_step, "go": make_step, "out": make_step, "drain": make_empty, "add": make_edit, "drop": make_edit,
}


class Session:
    """A fabric and its state, with the lines that changed them."""

    def __init__(self, fabric):
        self.now = (fabric, empty_state(fabric))
        self.past = []
        self.lines = []

    def fabric(self):
        """Return the fabric as it is now."""
        return self.now[0]

    def state(self):
        """Return the state as it is now."""
        return self.now[1]

    def journal(self):
        """List the lines that changed the fabric or the state and were not taken back."""
        return list(self.lines)

    def enter(self, line):
        """Handle a line and return the list of the lines of the answer."""
        words = read_words(line)
        word = words[0]
        if FORMS.get(word) != len(words) - 1 or None in words:
            return list(BAD)
        if word == "undo":
            return [self.take_back()]
        if word in QUESTIONS:
            tell = QUESTIONS[word]
            return tell(self.fabric(), self.state(), words)
        make = ORDERS[word]
        answer, fabric, state = make(self.fabric(), self.state(), words)
        self.change_to((fabric, state), line)
        return list(answer)

    def change_to(self, then, line):
        """Keep what a line has made of the fabric and the state, if it has changed them."""
        if then != self.now:
            self.past.append(self.now)
            self.lines.append(line)
            self.now = then

    def take_back(self):
        """Take back the last line that changed something, and return the answer."""
        if not self.past:
            return "nothing"
        self.now = self.past.pop()
        self.lines.pop()
        return "ok"
