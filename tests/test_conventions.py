import copy
import doctest
import importlib
import inspect
import os
import unittest

from samples import DOUBLE, FABRICS, PAIR, deep, greatest, random_network, random_table, ring

from calmfabric import errors, networks, tables, texts

ROOT = os.path.dirname(os.path.dirname(os.path.abspath(__file__)))

INTERFACE = {
    "calmfabric.networks": {
        "is_network": ("value",), "is_table": ("network", "value"), "is_fabric": ("value",),
        "dead_ends": ("network", "table"), "placements": ("fabric",), "options": ("fabric", "c", "d"),
        "is_home": ("fabric", "c", "d"), "served": ("fabric",), "is_full": ("fabric",),
    },
    "calmfabric.tables": {
        "empty_table": ("network",), "with_option": ("table", "u", "d", "c"),
        "without_option": ("table", "u", "d", "c"), "thinned": ("network", "table"),
        "without_channels": ("fabric", "channels"), "union": ("table", "other"),
        "renamed": ("fabric", "nodes", "channels"),
    },
    "calmfabric.texts": {"print_fabric": ("fabric",), "read_fabric": ("text",)},
}
ERRORS = ("FabricError", "BadText", "NotPossible", "NotAllowed", "NoAnswer")


def is_data(value):
    """Whether a value is made of integers, strings, True, False, None and tuples alone."""
    if type(value) is tuple:
        return all(is_data(part) for part in value)
    return value is None or type(value) in (int, str, bool)


def has_bool(value):
    if type(value) is tuple:
        return any(has_bool(part) for part in value)
    return type(value) is bool


def calls_of(fabric):
    """Each function of the interface with arguments that belong to a fabric."""
    network, table = fabric
    n, channels = network
    source, target, _ = channels[0]
    yield networks.is_network, (network,)
    yield networks.is_table, (network, table)
    yield networks.is_fabric, (fabric,)
    yield networks.dead_ends, (network, table)
    yield networks.placements, (fabric,)
    yield networks.options, (fabric, 0, target)
    yield networks.is_home, (fabric, 0, target)
    yield networks.served, (fabric,)
    yield networks.is_full, (fabric,)
    yield tables.empty_table, (network,)
    yield tables.with_option, (table, source, target, 0)
    yield tables.without_option, (table, source, target, 0)
    yield tables.thinned, (network, table)
    yield tables.without_channels, (fabric, (0,))
    yield tables.union, (table, tables.empty_table(network))
    yield tables.renamed, (fabric, tuple(range(n))[::-1], tuple(range(len(channels)))[::-1])
    yield texts.print_fabric, (fabric,)
    yield texts.read_fabric, (texts.print_fabric(fabric),)


class InterfaceTest(unittest.TestCase):
    def test_functions_stand_under_their_headings(self):
        for module_name, functions in INTERFACE.items():
            module = importlib.import_module(module_name)
            for name, arguments in functions.items():
                function = getattr(module, name)
                self.assertTrue(inspect.isfunction(function), name)
                self.assertEqual(function.__module__, module_name)
                self.assertEqual(tuple(inspect.signature(function).parameters), arguments)

    def test_errors_stand_under_their_heading(self):
        for name in ERRORS:
            self.assertEqual(getattr(errors, name).__module__, "calmfabric.errors")

    def test_all_functions_of_the_interface_are_called_here(self):
        called = {function.__name__ for function, _ in calls_of(PAIR)}
        self.assertEqual(called, {name for functions in INTERFACE.values() for name in functions})


class DataTest(unittest.TestCase):
    def test_arguments_are_the_same_before_and_after(self):
        for fabric in FABRICS + (greatest(),):
            for function, arguments in calls_of(fabric):
                before = repr(arguments)
                function(*arguments)
                self.assertEqual(repr(arguments), before, function.__name__)

    def test_results_are_data_without_bools_in_the_place_of_integers(self):
        for fabric in FABRICS:
            for function, arguments in calls_of(fabric):
                result = function(*arguments)
                if function.__name__.startswith("is_"):
                    self.assertIs(type(result), bool)
                elif type(result) is list:
                    self.assertTrue(is_data(tuple(result)) and not has_bool(tuple(result)), function.__name__)
                else:
                    self.assertTrue(is_data(result) and not has_bool(result), function.__name__)

    def test_lists_are_new_each_time(self):
        for fabric in (DOUBLE, ring(5)):
            for function, arguments in calls_of(fabric):
                first = function(*arguments)
                if type(first) is list:
                    told = copy.copy(first)
                    first.append("more")
                    self.assertEqual(function(*arguments), told)
        network = random_network(3)
        ends = networks.dead_ends(network, random_table(network, 3))
        self.assertIsInstance(ends, list)

    def test_the_same_call_has_the_same_result(self):
        for fabric in FABRICS:
            for function, arguments in calls_of(fabric):
                self.assertEqual(function(*arguments), function(*arguments))

    def test_any_value_is_answered(self):
        values = [deep(80), deep(80, (True, None, "", -1)), None, True, False, 0, -1, 10 ** 4000, "", "\n", "x" * 10 ** 5]
        values += [(value, value) for value in values[2:]] + [((value,),) * 2 for value in values[2:]]
        for value in values:
            self.assertIs(networks.is_network(value), False)
            self.assertIs(networks.is_fabric(value), False)
            for fabric in FABRICS:
                self.assertIs(networks.is_table(fabric[0], value), False)


class ExamplesTest(unittest.TestCase):
    def test_readme(self):
        failed, tried = doctest.testfile(os.path.join(ROOT, "README.md"), module_relative=False)
        self.assertEqual(failed, 0)
        self.assertGreater(tried, 4)


if __name__ == "__main__":
    unittest.main()
