"""Texts of steps, scripts, knots and packets."""

from calmfabric.errors import BadText
from calmfabric.packets import is_step
from calmfabric.texts import read_number

NO_STEPS = "nothing"
BETWEEN_STEPS = "; "


def print_words(word, things):
    """Return the text of a word and the things behind it, separated by single spaces."""
    return " ".join([word] + [str(thing) for thing in things])


def print_step(step):
    """Return the text of a step."""
    return print_words(step[0], step[1:])


def print_script(script):
    """Return the text of a script."""
    return BETWEEN_STEPS.join([print_step(step) for step in script]) if script else NO_STEPS


def print_knot(knot):
    """Return the text of a knot."""
    return " ".join([f"{c}>{d}" for c, d in knot])


def print_worm_knot(knot):
    """Return the text of a worm knot."""
    return " ".join([print_way(d, way) for d, way in knot])


def print_way(d, way):
    """Return the text of a goal and a way for it."""
    channels = "-".join([str(c) for c in way])
    return f"{d}:{channels}"


def print_packet(packet):
    """Return the text of a packet."""
    number, d = packet
    return f"{number}>{d}"


def read_words(text):
    """Return the tuple of the first word of a text and the numbers behind it, None for what is no number."""
    words = text.split(" ")
    return (words[0],) + tuple([read_number(word) for word in words[1:]])


def read_step(text):
    """Return the step of a text; raise BadText for a text of no step."""
    step = read_words(text)
    if not is_step(step):
        raise BadText(1)
    return step


def read_script(text):
    """Return the script of a text; raise BadText for a text of no script."""
    if text == NO_STEPS:
        return ()
    return tuple([read_step(part) for part in text.split(BETWEEN_STEPS)])
