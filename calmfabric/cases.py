"""Cases: packets are put in by one table and go on by another one."""

from calmfabric.networks import is_network, is_table, placements
from calmfabric.values import is_tuple_of


def is_case(value):
    """Tell whether any value is a case."""
    if not is_tuple_of(value, 3):
        return False
    network, table, onward = value
    if not is_network(network) or not is_table(network, table) or not is_table(network, onward):
        return False
    if not all([is_part(cell, whole) for row, rows in zip(onward, table) for cell, whole in zip(row, rows)]):
        return False
    ends = [(network[1][c][1], d) for c, d in placements((network, table))]
    return all([v == d or len(onward[v][d]) > 0 for v, d in ends])


def is_part(cell, whole):
    """Tell whether all options of a cell are options of the whole one."""
    held = set(whole)
    return all([c in held for c in cell])


def case_of(fabric):
    """Return the case of a fabric, with its table twice."""
    network, table = fabric
    return (network, table, table)


def case_placements(case):
    """List the placements of a case, ascending."""
    network, table, _ = case
    return placements((network, table))


def case_options(case, c, d):
    """Return the options of a placement."""
    (_, channels), _, onward = case
    return onward[channels[c][1]][d]
