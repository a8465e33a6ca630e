"""Edits of routing tables, and subsets of them."""

from itertools import combinations

from calmfabric.tables import with_option, without_option
from calmfabric.values import is_number, is_tuple_of

MAX_EDITS = 10


def are_edits(network, value):
    """Tell whether any value is edits of the network."""
    if not isinstance(value, tuple) or len(value) > MAX_EDITS:
        return False
    return all([is_edit(network, edit) for edit in value])


def is_edit(network, value):
    """Tell whether any value is an edit of the network."""
    n, channels = network
    if not is_tuple_of(value, 4):
        return False
    word, u, d, c = value
    if word not in ("add", "drop") or not is_number(u, 0, n - 1) or not is_number(d, 0, n - 1):
        return False
    return u != d and is_number(c, 0, len(channels) - 1) and channels[c][0] == u


def subsets(count):
    """List all subsets of so many edits, those with fewer edits first."""
    found = []
    for size in range(count + 1):
        found.extend(list(combinations(range(count), size)))
    return found


def edited(table, edits, subset):
    """Return the table behind the edits of a subset."""
    now = table
    for k in subset:
        word, u, d, c = edits[k]
        now = with_option(now, u, d, c) if word == "add" else without_option(now, u, d, c)
    return now
