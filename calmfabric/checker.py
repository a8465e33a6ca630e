"""The checker of statements and their certificates, for somebody who trusts no other part of the program."""

from calmfabric.checking import (
    edited_table, has_ends, has_length, is_between, is_case, is_end, is_knot, is_network, is_ranks, is_rising, is_state,
    is_stop, is_table, is_way_out, table_without, union_of,
)
from calmfabric.worm_checking import is_search_tree, is_worm_knot

MAX_EDITS = 10
MAX_FLITS = 1000000


def is_fabric(parts):
    """Tell whether parts are a network and a table of it without dead ends."""
    if len(parts) != 2 or not is_network(parts[0]):
        return False
    network, table = parts
    return is_table(network, table) and not has_ends(network, table)


def is_about_channel(parts):
    """Tell whether parts are a fabric, a state and a channel that is not empty."""
    if len(parts) != 4 or not is_fabric(parts[:2]):
        return False
    network, table, state, c = parts
    return is_state(network, table, state) and is_between(c, 0, len(network[1]) - 1) and len(state[1][c]) > 0


def is_about_worms(parts):
    """Tell whether parts are a fabric and a greatest length of worms."""
    return len(parts) == 3 and is_fabric(parts[:2]) and is_between(parts[2], 1, MAX_FLITS)


def is_about_change(parts):
    """Tell whether parts are a network and two tables that have a case."""
    if len(parts) != 3 or not is_network(parts[0]):
        return False
    network, old, new = parts
    return is_table(network, old) and is_table(network, new) and is_case(network, union_of(old, new), new)


def is_about_failures(parts):
    """Tell whether parts are a fabric and a number of channels."""
    return len(parts) == 3 and is_fabric(parts[:2]) and is_between(parts[2], 1, len(parts[0][1]))


def is_about_edits(parts):
    """Tell whether parts are a fabric and edits."""
    if len(parts) != 3 or not is_fabric(parts[:2]):
        return False
    network, _, edits = parts
    if not isinstance(edits, tuple) or len(edits) > MAX_EDITS:
        return False
    return all([is_edit(network, edit) for edit in edits])


def is_edit(network, value):
    """Tell whether any value is an edit of the network."""
    n, channels = network
    if not has_length(value, 4) or value[0] not in ("add", "drop"):
        return False
    _, u, d, c = value
    if not is_between(u, 0, n - 1) or not is_between(d, 0, n - 1) or not is_between(c, 0, len(channels) - 1):
        return False
    return u != d and channels[c][0] == u


def shows_calm(parts, certificate):
    """Tell whether any value is ranks of the fabric."""
    network, table = parts
    return is_ranks((network, table, table), certificate)


def shows_jams(parts, certificate):
    """Tell whether any value is a knot of the fabric."""
    network, table = parts
    return is_knot((network, table, table), certificate)


def shows_blocked(parts, certificate):
    """Tell whether any value is a stop for the channel."""
    network, table, state, c = parts
    return is_stop(network, table, state, c, certificate)


def shows_frees(parts, certificate):
    """Tell whether any value is a way out for the channel."""
    network, table, state, c = parts
    return is_way_out(network, table, state, c, certificate)


def shows_worms_calm(parts, certificate):
    """Tell whether any value is a search tree for worms of this length."""
    network, table, longest = parts
    return is_search_tree((network, table), longest, certificate)


def shows_worms_jam(parts, certificate):
    """Tell whether any value is a worm knot for worms of this length."""
    network, table, longest = parts
    return is_worm_knot((network, table), longest, certificate)


def shows_change_calm(parts, certificate):
    """Tell whether any value is ranks of the case of the change."""
    network, old, new = parts
    return is_ranks((network, union_of(old, new), new), certificate)


def shows_change_jams(parts, certificate):
    """Tell whether any value is a knot of the case of the change."""
    network, old, new = parts
    return is_knot((network, union_of(old, new), new), certificate)


def shows_firm(parts, certificate):
    """Tell whether any value is the rows for all sets of 1 to k channels."""
    network, table, k = parts
    many = len(network[1])
    if not isinstance(certificate, tuple):
        return False
    # There may be far more sets than rows, so they are not listed first.
    failed = set_behind(many, k, ())
    for row in certificate:
        if not has_length(row, 2) or not is_rising(row[0], many) or row[0] != failed:
            return False
        if not is_ranks(failure_case(network, table, failed), row[1]):
            return False
        failed = set_behind(many, k, failed)
    return failed is None


def shows_weak(parts, certificate):
    """Tell whether any value is a pair of 1 to k channels and a knot that there is without them."""
    network, table, k = parts
    if not has_length(certificate, 2):
        return False
    failed, knot = certificate
    if not is_rising(failed, len(network[1])) or not 1 <= len(failed) <= k:
        return False
    return is_knot(failure_case(network, table, failed), knot)


def failure_case(network, table, failed):
    """Return the case that is left when these channels fail."""
    new = table_without(network, table, failed)
    return (network, new, new)


def set_behind(many, most, some):
    """Return the ascending tuple behind this one, of those with at most so many of so many numbers; None at the end.

    Those with fewer numbers come first, otherwise they are ascending.
    """
    size = len(some)
    k = size - 1
    while k >= 0 and some[k] == many - size + k:
        k -= 1
    if k >= 0:
        return some[:k] + tuple(range(some[k] + 1, some[k] + 1 + size - k))
    return tuple(range(size + 1)) if size < most else None


def shows_least(parts, certificate):
    """Tell whether any value is an answer for the edits."""
    network, table, edits = parts
    many = len(edits)
    if not has_length(certificate, 3) or not isinstance(certificate[2], tuple):
        return False
    subset, ranks, reasons = certificate
    if subset is not None and not is_rising(subset, many):
        return False
    some = ()
    for reason in reasons:
        # Behind the last subset there is None, where nothing is to be told, either.
        if some == subset or not is_reason(network, edited_table(table, edits, some), reason):
            return False
        some = set_behind(many, many, some)
    if subset is None:
        return some is None and ranks == ()
    left = edited_table(table, edits, subset)
    return some == subset and not has_ends(network, left) and is_ranks((network, left, left), ranks)


def is_reason(network, table, value):
    """Tell whether any value is a reason against a table."""
    if not has_length(value, 2):
        return False
    word, told = value
    if word == "end":
        return is_told_end(network, table, told)
    return word == "knot" and not has_ends(network, table) and is_knot((network, table, table), told)


def is_told_end(network, table, value):
    """Tell whether any value is a dead end (u, d, c) of a table."""
    n = network[0]
    if not has_length(value, 3) or not all([is_between(k, 0, None) for k in value]):
        return False
    u, d, c = value
    return u < n and d < n and c in table[u][d] and is_end(network, table, d, c)


# What the parts behind each word have to be, and what shows that they say the truth.
FORMS = {
    "calm": is_fabric,
    "jams": is_fabric,
    "blocked": is_about_channel,
    "frees": is_about_channel,
    "worms calm": is_about_worms,
    "worms jam": is_about_worms,
    "change calm": is_about_change,
    "change jams": is_about_change,
    "firm": is_about_failures,
    "weak": is_about_failures,
    "least": is_about_edits,
}
PROOFS = {
    "calm": shows_calm,
    "jams": shows_jams,
    "blocked": shows_blocked,
    "frees": shows_frees,
    "worms calm": shows_worms_calm,
    "worms jam": shows_worms_jam,
    "change calm": shows_change_calm,
    "change jams": shows_change_jams,
    "firm": shows_firm,
    "weak": shows_weak,
    "least": shows_least,
}


def is_sound(statement):
    """Tell whether any value is a statement that is sound in form."""
    if not isinstance(statement, tuple) or len(statement) == 0 or not isinstance(statement[0], str):
        return False
    if statement[0] not in FORMS:
        return False
    is_right = FORMS[statement[0]]
    return is_right(statement[1:])


def check(statement, certificate):
    """Tell whether any statement is sound in form and any certificate is right for it."""
    if not is_sound(statement):
        return False
    shows = PROOFS[statement[0]]
    return shows(statement[1:], certificate)
