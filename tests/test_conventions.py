import copy
import doctest
import importlib
import inspect
import os
import unittest

from samples import DOUBLE, FABRICS, PAIR, deep, greatest, random_network, random_table, ring

from calmfabric import (
    blocked, cases, changeovers, changes, checker, distances, drains, edits, errors, failures, frames, known_ranks, networks,
    packets, rounds, routings, sessions, tables, texts, verdicts, ways, wording, wormknots, wormplay, worms, wormtrees, wormways,
)

ROOT = os.path.dirname(os.path.dirname(os.path.abspath(__file__)))

INTERFACE = {
    "calmfabric.networks": {
        "is_network": ("value",), "is_table": ("network", "value"), "is_fabric": ("value",),
        "dead_ends": ("network", "table"), "placements": ("fabric",), "options": ("fabric", "c", "d"),
        "is_home": ("fabric", "c", "d"), "served": ("fabric",), "is_full": ("fabric",),
    },
    "calmfabric.tables": {
        "empty_table": ("network",), "with_option": ("table", "u", "d", "c"),
        "without_option": ("table", "u", "d", "c"), "thinned": ("network", "table"),
        "without_channels": ("fabric", "channels"), "union": ("table", "other"),
        "renamed": ("fabric", "nodes", "channels"),
    },
    "calmfabric.texts": {"print_fabric": ("fabric",), "read_fabric": ("text",)},
    "calmfabric.frames": {
        "is_frame": ("value",), "line": ("n",), "ring": ("n",), "complete": ("n",), "star": ("n",), "tree": ("parents",),
        "mesh": ("sizes",), "torus": ("sizes",), "groups": ("count", "size"), "node_at": ("sizes", "place"),
        "place_of": ("sizes", "node"), "network_of": ("frame", "lanes", "room"),
        "channel_number": ("lanes", "link", "direction", "lane"), "link_of": ("lanes", "c"),
    },
    "calmfabric.distances": {"distances": ("network",), "is_connected": ("network",)},
    "calmfabric.routings": {
        "shortest": ("network",), "dimension_order": ("sizes", "lanes"), "dateline": ("sizes", "lanes"),
        "negative_first": ("sizes", "lanes"), "west_first": ("sizes", "lanes"), "north_last": ("sizes", "lanes"),
        "up_down": ("network", "root"), "in_lanes": ("network", "table", "lanes", "chosen"),
        "with_escape": ("network", "base", "other"),
    },
    "calmfabric.known_ranks": {
        "dimension_ranks": ("sizes", "lanes"), "dateline_ranks": ("sizes", "lanes"),
        "negative_ranks": ("sizes", "lanes"), "west_ranks": ("sizes", "lanes"), "north_ranks": ("sizes", "lanes"),
        "up_down_ranks": ("network", "root"), "escape_ranks": ("network", "base", "ranks"),
        "are_ranks": ("network", "table", "value"),
    },
    "calmfabric.packets": {
        "empty_state": ("fabric",), "is_state": ("fabric", "value"), "is_step": ("value",),
        "first_of": ("state", "c"), "is_full": ("fabric", "state", "c"), "packets_in": ("state",),
        "is_possible": ("fabric", "state", "step"), "possible_steps": ("fabric", "state"),
        "after": ("fabric", "state", "step"), "play": ("fabric", "state", "script"), "puts": ("fabric", "queues"),
    },
    "calmfabric.blocked": {
        "greatest_jam": ("fabric", "state"), "is_jam": ("fabric", "state", "value"), "blocked": ("fabric", "state"),
        "stuck_packets": ("fabric", "state"), "stop_of": ("fabric", "state", "c"), "way_out": ("fabric", "state", "c"),
        "is_stop": ("fabric", "state", "c", "value"), "is_way_out": ("fabric", "state", "c", "value"),
        "is_calm": ("fabric", "state"), "is_dead": ("fabric", "state"),
    },
    "calmfabric.cases": {
        "is_case": ("value",), "case_of": ("fabric",), "case_placements": ("case",), "case_options": ("case", "c", "d"),
    },
    "calmfabric.verdicts": {
        "verdict": ("case",), "least_ranks": ("case",), "greatest_knot": ("case",), "tight_knot": ("case",),
        "is_ranks": ("case", "value"), "is_knot": ("case", "value"),
    },
    "calmfabric.drains": {"knot_script": ("network", "knot"), "drain": ("fabric", "state", "ranks")},
    "calmfabric.ways": {
        "least_lengths": ("fabric", "d"), "astray": ("fabric",), "find_loop": ("fabric", "d"),
        "is_loop": ("fabric", "d", "value"), "greatest_lengths": ("fabric", "d"),
        "are_heights": ("fabric", "d", "value"), "arrives": ("fabric",), "first_way": ("fabric", "c", "d"),
    },
    "calmfabric.rounds": {
        "play_round": ("fabric", "state", "order"), "enough": ("fabric", "state"),
        "settle": ("fabric", "state", "order", "limit"),
    },
    "calmfabric.worms": {
        "empty_worms": (), "is_worm": ("fabric", "value"), "is_worm_state": ("fabric", "value"), "is_worm_step": ("value",),
        "worm_length": ("worm",), "holder": ("state", "c"), "free_channels": ("fabric", "state"),
    },
    "calmfabric.wormplay": {
        "is_worm_possible": ("fabric", "state", "step"), "possible_worm_steps": ("fabric", "state", "lengths"),
        "worm_after": ("fabric", "state", "step"), "play_worms": ("fabric", "state", "script"), "gather": ("fabric", "state"),
    },
    "calmfabric.wormways": {
        "is_way": ("fabric", "d", "value"), "way_options": ("fabric", "d", "way"), "least_length": ("network", "way"),
        "candidates": ("fabric", "longest", "chosen", "barred", "c"),
        "is_idle": ("fabric", "longest", "chosen", "barred", "c"),
    },
    "calmfabric.wormtrees": {
        "worm_verdict": ("fabric", "longest"), "is_search_tree": ("fabric", "longest", "chosen", "barred", "value"),
    },
    "calmfabric.wormknots": {
        "is_worm_knot": ("fabric", "longest", "value"), "worm_knot_script": ("network", "knot"),
        "find_worm_knot": ("fabric", "longest"), "critical_length": ("fabric",),
    },
    "calmfabric.changeovers": {
        "is_changeover": ("value",), "change_case": ("change",), "change_start": ("change",),
        "is_change_state": ("change", "value"), "can_change": ("change", "state", "step"),
        "changed_by": ("change", "state", "step"), "play_change": ("change", "state", "script"), "caught": ("change", "state"),
        "home_script": ("change", "state", "ranks"), "jam_script": ("change", "knot"),
    },
    "calmfabric.failures": {
        "after_failure": ("fabric", "state", "channels"), "cut_off": ("fabric", "channels"), "least_break": ("fabric", "k"),
        "least_cut": ("fabric", "k"),
    },
    "calmfabric.edits": {
        "are_edits": ("network", "value"), "subsets": ("count",), "edited": ("table", "edits", "subset"),
    },
    "calmfabric.changes": {
        "reason_against": ("network", "table"), "is_reason": ("network", "table", "value"), "least_change": ("fabric", "edits"),
        "is_answer": ("fabric", "edits", "value"), "needed_changes": ("fabric", "edits"),
    },
    "calmfabric.checker": {"is_sound": ("statement",), "check": ("statement", "certificate")},
    "calmfabric.wording": {
        "print_step": ("step",), "print_script": ("script",), "print_knot": ("knot",), "print_worm_knot": ("knot",),
        "read_step": ("text",), "read_script": ("text",),
    },
}
# The methods of the class, with their arguments behind self.
METHODS = {"enter": ("line",), "fabric": (), "state": (), "journal": ()}
CONSTANTS = {
    "calmfabric.networks": {"MAX_NODES": 64, "MAX_CHANNELS": 400, "MAX_ROOM": 1000},
    "calmfabric.frames": {"MAX_LANES": 8},
    "calmfabric.worms": {"MAX_FLITS": 1000000},
    "calmfabric.edits": {"MAX_EDITS": 10},
}
# These answer True or False, like those whose names begin with "is_".
ANSWERS = ("are_ranks", "are_heights", "arrives", "can_change", "are_edits", "check")
ERRORS = ("FabricError", "BadText", "NotPossible", "NotAllowed", "NoAnswer")


def is_data(value):
    """Whether a value is made of integers, strings, True, False, None and tuples alone."""
    if type(value) is tuple:
        return all(is_data(part) for part in value)
    return value is None or type(value) in (int, str, bool)


def has_bool(value):
    if type(value) is tuple:
        return any(has_bool(part) for part in value)
    return type(value) is bool


def calls_of(fabric):
    """Each function of the interface with arguments, those of part 1 and 4 with ones that belong to a fabric."""
    yield from first_calls_of(fabric)
    yield from packet_calls_of(fabric)
    yield from stuck_calls_of(fabric)
    yield from way_calls_of(fabric)
    yield from worm_calls_of(fabric)
    yield from worm_way_calls_of(fabric)
    yield from change_calls_of(fabric)
    yield from failure_calls_of(fabric)
    yield from check_calls_of(fabric)
    yield from KNOWN_CALLS


def packet_calls_of(fabric):
    """Each function of part 4, and those of parts 2 and 3 that take any network or table."""
    network, table = fabric
    channels = network[1]
    puts = tuple(("put", channels[c][0], d, c) for c, d in networks.placements(fabric)[:1])
    state = packets.play(fabric, packets.empty_state(fabric), puts)
    c = puts[0][3] if puts else 0
    yield distances.distances, (network,)
    yield distances.is_connected, (network,)
    yield routings.shortest, (network,)
    yield routings.in_lanes, (network, table, 2, (0,))
    yield known_ranks.are_ranks, (network, table, (0,) * len(channels))
    yield packets.empty_state, (fabric,)
    yield packets.is_state, (fabric, state)
    yield packets.is_step, (("go", 0, 1),)
    yield packets.first_of, (state, c)
    yield packets.is_full, (fabric, state, c)
    yield packets.packets_in, (state,)
    yield packets.is_possible, (fabric, state, ("go", c, 0))
    yield packets.possible_steps, (fabric, state)
    for step in packets.possible_steps(fabric, state)[:1]:
        yield packets.after, (fabric, state, step)
        yield packets.play, (fabric, state, (step,))
    yield packets.puts, (fabric, tuple(tuple(goal for _, goal in queue) for queue in state[1]))


def stuck_calls_of(fabric):
    """Each function of parts 5 and 6."""
    state = full_state(fabric)
    case = cases.case_of(fabric)
    word, told = verdicts.verdict(case)
    yield blocked.greatest_jam, (fabric, state)
    yield blocked.is_jam, (fabric, state, (0,))
    yield blocked.blocked, (fabric, state)
    yield blocked.stuck_packets, (fabric, state)
    for c, queue in enumerate(state[1][:9]):
        if queue:
            yield blocked.stop_of, (fabric, state, c)
            yield blocked.way_out, (fabric, state, c)
    yield blocked.is_stop, (fabric, state, 0, (0,))
    yield blocked.is_way_out, (fabric, state, 0, (("out", 0),))
    yield blocked.is_calm, (fabric, state)
    yield blocked.is_dead, (fabric, state)
    yield cases.is_case, (case,)
    yield cases.case_of, (fabric,)
    yield cases.case_placements, (case,)
    yield cases.case_options, (case, 0, fabric[0][1][0][1])
    yield verdicts.verdict, (case,)
    yield verdicts.least_ranks, (case,)
    yield verdicts.greatest_knot, (case,)
    yield verdicts.tight_knot, (case,)
    yield verdicts.is_ranks, (case, told)
    yield verdicts.is_knot, (case, told)
    yield drains.knot_script, (fabric[0], told if word == "knot" else ())
    if word == "ranks":
        yield drains.drain, (fabric, state, told)


def full_state(fabric):
    """A state with at most three packets in each channel, as far from home as there are."""
    goals = {}
    for c, d in networks.placements(fabric):
        if d != fabric[0][1][c][1] or c not in goals:
            goals[c] = d
    queues = [(goals[c],) * min(room, 3) if c in goals else () for c, (_, _, room) in enumerate(fabric[0][1])]
    return packets.play(fabric, packets.empty_state(fabric), packets.puts(fabric, tuple(queues)))


def way_calls_of(fabric):
    """Each function of part 7."""
    many = len(fabric[0][1])
    state = full_state(fabric)
    yield rounds.play_round, (fabric, state, tuple(range(many)))
    yield rounds.settle, (fabric, state, tuple(range(many))[::-1], 9)
    if ways.arrives(fabric):
        yield rounds.enough, (fabric, state)
    yield ways.least_lengths, (fabric, 1)
    yield ways.astray, (fabric,)
    yield ways.find_loop, (fabric, 1)
    yield ways.is_loop, (fabric, 1, (0,))
    yield ways.greatest_lengths, (fabric, 1)
    yield ways.are_heights, (fabric, 1, (1,) * many)
    yield ways.arrives, (fabric,)
    for c, d in networks.placements(fabric)[:9]:
        yield ways.first_way, (fabric, c, d)


def worm_calls_of(fabric):
    """Each function of part 8."""
    channels = fabric[0][1]
    state = worms.empty_worms()
    for c, d in networks.placements(fabric)[:40]:
        step = ("put", channels[c][0], d, c, 3)
        if wormplay.is_worm_possible(fabric, state, step):
            state = wormplay.worm_after(fabric, state, step)
    yield worms.empty_worms, ()
    for worm in state[1][:3]:
        yield worms.is_worm, (fabric, worm)
        yield worms.worm_length, (worm,)
    yield worms.is_worm_state, (fabric, state)
    yield worms.is_worm_step, (("take", 1),)
    yield worms.holder, (state, 0)
    yield worms.free_channels, (fabric, state)
    yield wormplay.is_worm_possible, (fabric, state, ("feed", 0))
    yield wormplay.possible_worm_steps, (fabric, state, (2, 1))
    for step in wormplay.possible_worm_steps(fabric, state, (1,))[-3:]:
        yield wormplay.worm_after, (fabric, state, step)
        yield wormplay.play_worms, (fabric, state, (step,))
    yield wormplay.gather, (fabric, state)


def worm_way_calls_of(fabric):
    """Each function of part 9."""
    yield wormways.is_way, (fabric, 1, (0,))
    for c, d in networks.placements(fabric)[:3]:
        yield wormways.way_options, (fabric, d, (c,))
        yield wormways.least_length, (fabric[0], (c,))
    yield wormways.candidates, (fabric, 2, (), (), 0)
    yield wormways.is_idle, (fabric, 2, (), (), 0)
    yield wormtrees.worm_verdict, (fabric, 2)
    yield wormtrees.is_search_tree, (fabric, 2, (), (), ("closed", (0,)))
    knot = wormknots.find_worm_knot(fabric, 2)
    yield wormknots.is_worm_knot, (fabric, 2, knot)
    yield wormknots.worm_knot_script, (fabric[0], knot or ())
    yield wormknots.find_worm_knot, (fabric, 2)
    yield wormknots.critical_length, (fabric,)


def change_calls_of(fabric):
    """Each function of changeovers, from a table with some options less, in some state."""
    network, table = fabric
    change = (network, tables.without_channels(fabric, (0,))[1], table)
    case = changeovers.change_case(change)
    word, told = verdicts.verdict(case)
    start = changeovers.change_start(change)
    state = changeovers.play_change(change, start, (("switch", 1),))
    yield changeovers.is_changeover, (change,)
    yield changeovers.change_case, (change,)
    yield changeovers.change_start, (change,)
    yield changeovers.is_change_state, (change, state)
    yield changeovers.can_change, (change, state, ("go", 0, 1))
    yield changeovers.changed_by, (change, state, ("switch", 0))
    yield changeovers.play_change, (change, start, (("switch", 1), ("switch", 0)))
    yield changeovers.caught, (change, ((0,), full_state(fabric)))
    yield changeovers.home_script, (change, state, told if word == "ranks" else (0,) * len(network[1]))
    yield changeovers.jam_script, (change, told if word == "knot" else ())


def failure_calls_of(fabric):
    """Each function of failures, edits and least changes."""
    network, table = fabric
    pairs = networks.placements(fabric)[:2]
    some = tuple(("drop", network[1][c][0], d, c) for c, d in pairs)
    reason = changes.reason_against(network, table)
    yield failures.after_failure, (fabric, full_state(fabric), (0,))
    yield failures.cut_off, (fabric, (0,))
    yield failures.least_break, (fabric, 1)
    yield failures.least_cut, (fabric, 1)
    yield edits.are_edits, (network, some)
    yield edits.subsets, (3,)
    yield edits.edited, (table, some, tuple(range(len(some))))
    yield changes.reason_against, (network, table)
    yield changes.is_reason, (network, table, reason)
    yield changes.least_change, (fabric, some)
    yield changes.is_answer, (fabric, some, changes.least_change(fabric, some))
    yield changes.needed_changes, (fabric, some)


def check_calls_of(fabric):
    """Each function of the checker and of the texts."""
    word, told = verdicts.verdict(cases.case_of(fabric))
    statement = ("calm" if word == "ranks" else "jams",) + fabric
    yield checker.is_sound, (statement,)
    yield checker.check, (statement, told)
    word, told = wormtrees.worm_verdict(fabric, 2)
    yield checker.check, (("worms calm" if word == "tree" else "worms jam",) + fabric + (2,), told)
    yield checker.check, (("least",) + fabric + ((),), changes.least_change(fabric, ()))
    yield checker.check, (("firm",) + fabric + (1,), (((0,), (0,)),))
    yield wording.print_step, (("go", 0, 1),)
    yield wording.print_script, ((("go", 0, 1), ("out", 1)),)
    yield wording.print_knot, (((0, 1), (2, 3)),)
    yield wording.print_worm_knot, (((0, (1, 2)), (2, (3,))),)
    yield wording.read_step, ("put 0 1 2",)
    yield wording.read_script, ("put 0 1 2; out 2",)


MESH = frames.network_of(frames.mesh((2, 3)), 2, 4)
BASE = routings.in_lanes(MESH, routings.dimension_order((2, 3), 2), 2, (0,))
OTHER = routings.in_lanes(MESH, routings.shortest(MESH), 2, (1,))
KNOWN_CALLS = (
    (frames.is_frame, ((3, ((0, 1), (1, 2))),)),
    (frames.line, (4,)),
    (frames.ring, (4,)),
    (frames.complete, (4,)),
    (frames.star, (4,)),
    (frames.tree, ((0, 0, 1),)),
    (frames.mesh, ((2, 3),)),
    (frames.torus, ((2, 3),)),
    (frames.groups, (3, 2)),
    (frames.node_at, ((2, 3), (1, 2))),
    (frames.place_of, ((2, 3), 5)),
    (frames.network_of, ((3, ((0, 1), (1, 2))), 2, 7)),
    (frames.channel_number, (3, 4, 1, 2)),
    (frames.link_of, (3, 29)),
    (routings.dimension_order, ((2, 3), 2)),
    (routings.dateline, ((2, 3), 2)),
    (routings.negative_first, ((2, 3), 2)),
    (routings.west_first, ((2, 3), 2)),
    (routings.north_last, ((2, 3), 2)),
    (routings.up_down, (MESH, 3)),
    (routings.with_escape, (MESH, BASE, OTHER)),
    (known_ranks.dimension_ranks, ((2, 3), 2)),
    (known_ranks.dateline_ranks, ((2, 3), 2)),
    (known_ranks.negative_ranks, ((2, 3), 2)),
    (known_ranks.west_ranks, ((2, 3), 2)),
    (known_ranks.north_ranks, ((2, 3), 2)),
    (known_ranks.up_down_ranks, (MESH, 3)),
    (known_ranks.escape_ranks, (MESH, BASE, known_ranks.dimension_ranks((2, 3), 2))),
)


def first_calls_of(fabric):
    """Each function of part 1."""
    network, table = fabric
    n, channels = network
    source, target, _ = channels[0]
    yield networks.is_network, (network,)
    yield networks.is_table, (network, table)
    yield networks.is_fabric, (fabric,)
    yield networks.dead_ends, (network, table)
    yield networks.placements, (fabric,)
    yield networks.options, (fabric, 0, target)
    yield networks.is_home, (fabric, 0, target)
    yield networks.served, (fabric,)
    yield networks.is_full, (fabric,)
    yield tables.empty_table, (network,)
    yield tables.with_option, (table, source, target, 0)
    yield tables.without_option, (table, source, target, 0)
    yield tables.thinned, (network, table)
    yield tables.without_channels, (fabric, (0,))
    yield tables.union, (table, tables.empty_table(network))
    yield tables.renamed, (fabric, tuple(range(n))[::-1], tuple(range(len(channels)))[::-1])
    yield texts.print_fabric, (fabric,)
    yield texts.read_fabric, (texts.print_fabric(fabric),)


class InterfaceTest(unittest.TestCase):
    def test_functions_stand_under_their_headings(self):
        for module_name, functions in INTERFACE.items():
            module = importlib.import_module(module_name)
            for name, arguments in functions.items():
                function = getattr(module, name)
                self.assertTrue(inspect.isfunction(function), name)
                self.assertEqual(function.__module__, module_name)
                self.assertEqual(tuple(inspect.signature(function).parameters), arguments)

    def test_errors_stand_under_their_heading(self):
        for name in ERRORS:
            self.assertEqual(getattr(errors, name).__module__, "calmfabric.errors")

    def test_the_class_has_its_methods_itself(self):
        self.assertEqual(sessions.Session.__module__, "calmfabric.sessions")
        self.assertEqual(tuple(inspect.signature(sessions.Session).parameters), ("fabric",))
        for name, arguments in METHODS.items():
            method = vars(sessions.Session)[name]
            self.assertEqual(tuple(inspect.signature(method).parameters), ("self",) + arguments)

    def test_all_functions_of_the_interface_are_called_here(self):
        called = {(function.__module__, function.__name__) for function, _ in calls_of(PAIR)}
        self.assertEqual(called, {(module, name) for module, functions in INTERFACE.items() for name in functions})

    def test_constants(self):
        for module_name, constants in CONSTANTS.items():
            for name, number in constants.items():
                self.assertEqual(getattr(importlib.import_module(module_name), name), number)


class DataTest(unittest.TestCase):
    def test_arguments_are_the_same_before_and_after(self):
        for fabric in FABRICS + (greatest(),):
            for function, arguments in calls_of(fabric):
                before = repr(arguments)
                function(*arguments)
                self.assertEqual(repr(arguments), before, function.__name__)

    def test_results_are_data_without_bools_in_the_place_of_integers(self):
        for fabric in FABRICS:
            for function, arguments in calls_of(fabric):
                result = function(*arguments)
                if function is rounds.play_round:
                    # This one has a list in a tuple.
                    self.assertIs(type(result[1]), list)
                    result = result[:1] + (tuple(result[1]),)
                if function.__name__.startswith("is_") or function.__name__ in ANSWERS:
                    self.assertIs(type(result), bool)
                elif type(result) is list:
                    self.assertTrue(is_data(tuple(result)) and not has_bool(tuple(result)), function.__name__)
                else:
                    self.assertTrue(is_data(result) and not has_bool(result), function.__name__)

    def test_lists_are_new_each_time(self):
        for fabric in (DOUBLE, ring(5)):
            for function, arguments in calls_of(fabric):
                first = function(*arguments)
                if type(first) is list:
                    told = copy.copy(first)
                    first.append("more")
                    self.assertEqual(function(*arguments), told)
        network = random_network(3)
        ends = networks.dead_ends(network, random_table(network, 3))
        self.assertIsInstance(ends, list)

    def test_the_same_call_has_the_same_result(self):
        for fabric in FABRICS:
            for function, arguments in calls_of(fabric):
                self.assertEqual(function(*arguments), function(*arguments))

    def test_any_value_is_answered(self):
        values = [deep(80), deep(80, (True, None, "", -1)), None, True, False, 0, -1, 10 ** 4000, "", "\n", "x" * 10 ** 5]
        values += [(value, value) for value in values[2:]] + [((value,),) * 2 for value in values[2:]]
        for value in values:
            self.assertIs(networks.is_network(value), False)
            self.assertIs(networks.is_fabric(value), False)
            self.assertIs(frames.is_frame(value), False)
            self.assertIs(packets.is_step(value), False)
            self.assertIs(cases.is_case(value), False)
            self.assertIs(worms.is_worm_step(value), False)
            self.assertIs(changeovers.is_changeover(value), False)
            self.assertIs(checker.is_sound(value), False)
            self.assertIs(checker.check(value, value), False)
            for fabric in FABRICS:
                self.assertIs(networks.is_table(fabric[0], value), False)
                self.assertIs(packets.is_state(fabric, value), False)
                state = full_state(fabric)
                self.assertIs(blocked.is_jam(fabric, state, value), False)
                self.assertIs(blocked.is_stop(fabric, state, 0, value), False)
                self.assertIs(blocked.is_way_out(fabric, state, 0, value), False)
                # Two equal numbers are ranks for the two channels of PAIR.
                self.assertIs(fabric != PAIR and verdicts.is_ranks(cases.case_of(fabric), value), False)
                self.assertIs(verdicts.is_knot(cases.case_of(fabric), value), False)
                self.assertIs(ways.is_loop(fabric, 1, value), False)
                self.assertIs(ways.are_heights(fabric, 1, value), False)
                self.assertIs(worms.is_worm(fabric, value), False)
                self.assertIs(worms.is_worm_state(fabric, value), False)
                self.assertIs(wormways.is_way(fabric, 1, value), False)
                self.assertIs(wormtrees.is_search_tree(fabric, 2, (), (), value), False)
                self.assertIs(wormknots.is_worm_knot(fabric, 2, value), False)
                self.assertIs(changeovers.is_change_state(fabric + fabric[1:], value), False)
                self.assertIs(edits.are_edits(fabric[0], value), False)
                self.assertIs(changes.is_reason(*fabric, value), False)
                self.assertIs(changes.is_answer(fabric, (), value), False)
                for word in ("jams", "firm", "weak", "blocked", "least", "worms calm", "worms jam", "change jams"):
                    self.assertIs(checker.check((word,) + fabric, value), False)
                    self.assertIs(checker.check((word,) + fabric + (1,), value), False)
                    self.assertIs(checker.check((word,) + fabric + fabric[1:], value), False)


class ExamplesTest(unittest.TestCase):
    def test_readme(self):
        failed, tried = doctest.testfile(os.path.join(ROOT, "README.md"), module_relative=False)
        self.assertEqual(failed, 0)
        self.assertGreater(tried, 4)


if __name__ == "__main__":
    unittest.main()
