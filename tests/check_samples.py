"""Statements for the tests of the checker, with certificates from the other parts, and what is right by these parts."""

import functools
import itertools

from change_samples import CHANGE, small_change
from samples import (
    CHAIN4, DOUBLE, MIXED, NO_OPTIONS, PAIR, RING3, deep, paths_of, put_at, table_of,
)
from test_edits import drawn_edits
from worlds import packed_state, small_fabric, states_of
from worm_samples import RANKED

from calmfabric.blocked import is_stop, is_way_out, stop_of, way_out
from calmfabric.cases import case_of, is_case
from calmfabric.changeovers import change_case
from calmfabric.changes import is_answer, least_change
from calmfabric.edits import are_edits
from calmfabric.networks import is_fabric, is_network, is_table
from calmfabric.packets import is_state
from calmfabric.tables import union, without_channels
from calmfabric.verdicts import is_knot, is_ranks, verdict
from calmfabric.wormknots import is_worm_knot
from calmfabric.wormtrees import is_search_tree, worm_verdict

WORDS = (
    "calm", "jams", "blocked", "frees", "worms calm", "worms jam", "change calm", "change jams", "firm", "weak",
    "least",
)
KNOT = ((0, 2), (1, 0), (2, 1))
FULL = (3, (((0, 2),), ((1, 0),), ((2, 1),)))
# With channel 3 beside channel 1 the ring is open; one of the two without the other one is not enough.
OPEN = ((3, ((0, 1, 1), (1, 2, 1), (2, 0, 1), (1, 2, 1))), table_of(3, {
    (0, 1): (0,), (0, 2): (0,), (1, 2): (1, 3), (1, 0): (1,), (2, 0): (2,), (2, 1): (2,),
}))
HALF = (RING3[0], put_at(RING3[1], (2, 1), ()))
RING_EDITS = (("drop", 0, 1, 0), ("drop", 2, 1, 2))


def sets_up_to(many, k):
    return [some for size in range(1, k + 1) for some in itertools.combinations(range(many), size)]


def firm_rows(fabric, k):
    """The rows of [12.5], or None if some channels leave a knot."""
    told = [(some, verdict(case_of(without_channels(fabric, some)))) for some in sets_up_to(len(fabric[0][1]), k)]
    if any(word == "knot" for _, (word, _) in told):
        return None
    return tuple((some, ranks) for some, (_, ranks) in told)


def weak_pairs(fabric, k):
    """The pairs of all sets of channels that leave a knot, each with the greatest one."""
    told = [(some, verdict(case_of(without_channels(fabric, some)))) for some in sets_up_to(len(fabric[0][1]), k)]
    return [(some, knot) for some, (word, knot) in told if word == "knot"]


def verdict_statement(fabric):
    word, told = verdict(case_of(fabric))
    return (("calm" if word == "ranks" else "jams",) + fabric, told)


def channel_statement(fabric, state, c):
    stop = stop_of(fabric, state, c)
    if stop is not None:
        return (("blocked",) + fabric + (state, c), stop)
    return (("frees",) + fabric + (state, c), way_out(fabric, state, c))


def worm_statement(fabric, longest):
    word, told = worm_verdict(fabric, longest)
    return (("worms calm" if word == "tree" else "worms jam",) + fabric + (longest,), told)


def change_statement(change):
    word, told = verdict(change_case(change))
    return (("change calm" if word == "ranks" else "change jams",) + change, told)


def failure_statement(fabric, k):
    rows = firm_rows(fabric, k)
    if rows is not None:
        return (("firm",) + fabric + (k,), rows)
    return (("weak",) + fabric + (k,), weak_pairs(fabric, k)[-1])


def least_statement(fabric, edits):
    return (("least",) + fabric + (edits,), least_change(fabric, edits))


@functools.lru_cache(maxsize=None)
def samples():
    """Some statements of each word, with a right certificate."""
    found = [verdict_statement(fabric) for fabric in (PAIR, CHAIN4, RING3, OPEN, HALF, DOUBLE, MIXED, NO_OPTIONS)]
    found += [channel_statement(RING3, FULL, c) for c in range(3)]
    found += [channel_statement(RING3, put_at(FULL, (1, 0), ()), c) for c in (1, 2)]
    found += [channel_statement(CHAIN4, (2, (((0, 3),), ((1, 3),), ())), c) for c in (0, 1)]
    found += [worm_statement(RANKED[k], longest) for k in (1, 3) for longest in (1, 2, 3)]
    found += [worm_statement(RANKED[4], 4), worm_statement(RANKED[5], 7), worm_statement(CHAIN4, 1000000)]
    found += [change_statement(change) for change in (CHANGE, CHAIN4 + CHAIN4[1:], RING3 + RING3[1:], small_change(4))]
    found += [failure_statement(fabric, k) for fabric in (PAIR, CHAIN4, HALF) for k in (1, 2)]
    found += [failure_statement(OPEN, k) for k in (1, 2)] + [failure_statement(RING3, 3)]
    found += [least_statement(RING3, RING_EDITS), least_statement(RING3, RING_EDITS[:1]), least_statement(PAIR, ())]
    return tuple(found)


@functools.lru_cache(maxsize=None)
def drawn_samples():
    """Statements about drawn fabrics, with certificates."""
    found = []
    for seed in range(40):
        fabric = small_fabric(seed)
        found.append(verdict_statement(fabric))
        for state in [packed_state(fabric, seed), states_of(fabric, range(1))[-1]]:
            found += [channel_statement(fabric, state, c) for c, queue in enumerate(state[1]) if queue]
        found += [worm_statement(fabric, longest) for longest in (1, 3)]
        found.append(change_statement(small_change(seed)))
        found += [failure_statement(fabric, k) for k in (1, 2)]
        found.append(least_statement(fabric, drawn_edits(fabric[0], seed, seed % 4)))
    return tuple(found)


def plain_is_sound(statement):
    """Whether any value is sound in form, by what the other parts say of its parts."""
    if not isinstance(statement, tuple) or not statement or statement[0] not in WORDS:
        return False
    word, parts = statement[0], statement[1:]
    if len(parts) != {"calm": 2, "jams": 2, "blocked": 4, "frees": 4}.get(word, 3):
        return False
    if word in ("change calm", "change jams"):
        network, old, new = parts
        right = is_network(network) and is_table(network, old) and is_table(network, new)
        return right and is_case((network, union(old, new), new))
    if not is_fabric(parts[:2]):
        return False
    many = len(parts[0][1])
    if word in ("calm", "jams"):
        return True
    if word in ("blocked", "frees"):
        state, c = parts[2:]
        return is_state(parts[:2], state) and type(c) is int and 0 <= c < many and state[1][c] != ()
    if word == "least":
        return are_edits(parts[0], parts[2])
    return type(parts[2]) is int and 1 <= parts[2] <= (many if word in ("firm", "weak") else 1000000)


def plain_is_right(statement, value):
    """Whether any value is a certificate of a sound statement, by the other parts."""
    word, fabric, more = statement[0], statement[1:3], statement[3:]
    if word in ("calm", "jams"):
        return (is_ranks if word == "calm" else is_knot)(case_of(fabric), value)
    if word in ("blocked", "frees"):
        return (is_stop if word == "blocked" else is_way_out)(fabric, more[0], more[1], value)
    if word == "worms calm":
        return is_search_tree(fabric, more[0], (), (), value)
    if word == "worms jam":
        return is_worm_knot(fabric, more[0], value)
    if word in ("change calm", "change jams"):
        return (is_ranks if word == "change calm" else is_knot)(change_case(statement[1:]), value)
    if word == "least":
        return is_answer(fabric, more[0], value)
    return plain_is_firm(fabric, more[0], value) if word == "firm" else plain_is_weak(fabric, more[0], value)


def is_set(value):
    return isinstance(value, tuple) and all(type(c) is int for c in value)


def plain_is_firm(fabric, k, value):
    sets = sets_up_to(len(fabric[0][1]), k)
    if not isinstance(value, tuple) or len(value) != len(sets):
        return False
    for row, some in zip(value, sets):
        if not isinstance(row, tuple) or len(row) != 2 or not is_set(row[0]) or row[0] != some:
            return False
        if not is_ranks(case_of(without_channels(fabric, some)), row[1]):
            return False
    return True


def plain_is_weak(fabric, k, value):
    if not isinstance(value, tuple) or len(value) != 2 or not is_set(value[0]):
        return False
    if value[0] not in sets_up_to(len(fabric[0][1]), k):
        return False
    return is_knot(case_of(without_channels(fabric, value[0])), value[1])


def others_of(part):
    """Other values in the place of a part."""
    if part is None or isinstance(part, bool):
        return [0, 1, (), (0,), "", "None"]
    if isinstance(part, int):
        return [part + 1, part - 1, -part - 1, bool(part), None, str(part), (part,), (), 10 ** 3000]
    if isinstance(part, str):
        return [part + " ", part.upper(), part[:-1], "", None, 0, True, (part,)] + list(WORDS) + ["add", "drop", "end",
            "knot"]
    found = [part[:k] + part[k + 1:] for k in range(len(part))] + [part[:k] + part[k - 1:] for k in range(1,
        len(part) + 1)]
    found += [part[:k] + (part[k + 1], part[k]) + part[k + 2:] for k in range(len(part) - 1)]
    found += [part[::-1], (), part + ((),), part + (0,), (0,) + part, part + (None,), (part,), None, 0, 1, True, False,
        ""]
    return found + [deep(80), deep(78, part)]


def variants(value):
    """The value with one thing changed, in each of its parts."""
    found = []
    for path in paths_of(value):
        part = value
        for k in path:
            part = part[k]
        found += [put_at(value, path, other) for other in others_of(part) if repr(other) != repr(part)]
    return found
