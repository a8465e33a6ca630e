"""The least change of a routing table that avoids knots, with a reason against each lesser one."""

from calmfabric.cases import case_of
from calmfabric.edits import edited, subsets
from calmfabric.networks import dead_ends
from calmfabric.values import is_ascending_below, is_from, is_tuple_of
from calmfabric.verdicts import greatest_knot, is_knot, is_ranks, least_ranks


def reason_against(network, table):
    """Return the first dead end or a knot as a reason against a table, or None."""
    ends = dead_ends(network, table)
    if ends:
        return ("end", ends[0])
    knot = greatest_knot(case_of((network, table)))
    return None if knot is None else ("knot", knot)


def reason_near(network, table, known):
    """Return a reason against a table, or None; it is the known one if that is a reason against this table, too."""
    # Most knots outlast a few edits, and to look at one again is far less work than to find one.
    if known is not None and is_reason(network, table, known):
        return known
    return reason_against(network, table)


def is_reason(network, table, value):
    """Tell whether any value is a reason against the table."""
    if not is_tuple_of(value, 2):
        return False
    word, told = value
    if word == "end":
        return is_dead_end(network, table, told)
    return word == "knot" and not dead_ends(network, table) and is_knot(case_of((network, table)), told)


def is_dead_end(network, table, value):
    """Tell whether any value is a dead end (u, d, c) of the table."""
    # True would count as 1 among the dead ends.
    return is_tuple_of(value, 3) and all([is_from(k, 0) for k in value]) and value in dead_ends(network, table)


def least_change(fabric, edits):
    """Return the answer: the least change, its ranks, and a reason against each subset before it."""
    network, table = fabric
    reasons = []
    known = None
    for subset in subsets(len(edits)):
        now = edited(table, edits, subset)
        reason = reason_near(network, now, known)
        if reason is None:
            return (subset, least_ranks(case_of((network, now))), tuple(reasons))
        reasons.append(reason)
        known = reason if reason[0] == "knot" else known
    return (None, (), tuple(reasons))


def is_answer(fabric, edits, value):
    """Tell whether any value is a right answer."""
    if not is_tuple_of(value, 3):
        return False
    subset, ranks, reasons = value
    every = subsets(len(edits))
    if subset is None:
        return ranks == () and are_reasons(fabric, edits, every, reasons)
    if not is_ascending_below(subset, len(edits)):
        return False
    if not are_reasons(fabric, edits, every[:every.index(subset)], reasons):
        return False
    network, table = fabric
    now = edited(table, edits, subset)
    return not dead_ends(network, now) and is_ranks(case_of((network, now)), ranks)


def are_reasons(fabric, edits, against, value):
    """Tell whether any value is the tuple of a reason against each of these subsets."""
    network, table = fabric
    if not is_tuple_of(value, len(against)):
        return False
    for subset, reason in zip(against, value):
        if not is_reason(network, edited(table, edits, subset), reason):
            return False
    return True


def needed_changes(fabric, edits):
    """List the calm subsets no part of which is calm, in order."""
    network, table = fabric
    needed = []
    known = None
    for subset in subsets(len(edits)):
        # The parts of a subset come before it, and a part that is calm has a needed one among its own.
        if not any([is_inside(part, subset) for part in needed]):
            reason = reason_near(network, edited(table, edits, subset), known)
            if reason is None:
                needed.append(subset)
            elif reason[0] == "knot":
                known = reason
    return needed


def is_inside(part, whole):
    """Tell whether all edits of a subset are edits of another one."""
    return all([k in whole for k in part])
