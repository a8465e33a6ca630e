"""Changeovers: node by node, a routing table is exchanged while packets are under way."""

from calmfabric.blocked import blocked
from calmfabric.cases import is_case
from calmfabric.drains import drain, knot_script
from calmfabric.errors import NotAllowed, NotPossible
from calmfabric.networks import dead_ends, is_network, is_table
from calmfabric.packets import changes, empty_state, is_possible, is_state
from calmfabric.tables import union
from calmfabric.values import is_ascending_below, is_number, is_tuple_of


def is_changeover(value):
    """Tell whether any value is a changeover."""
    if not is_tuple_of(value, 3):
        return False
    network, old, new = value
    if not is_network(network) or not is_table(network, old) or not is_table(network, new):
        return False
    # A dead end of the new table is no option of a case.
    return not dead_ends(network, old) and is_case(change_case(value))


def change_case(change):
    """Return the case of a changeover."""
    network, old, new = change
    return (network, union(old, new), new)


def change_start(change):
    """Return the changeover state in which no node has switched and there are no packets."""
    return ((), empty_state(change[:2]))


def is_change_state(change, value):
    """Tell whether any value is a state of the changeover."""
    network, table, _ = change_case(change)
    if not is_tuple_of(value, 2):
        return False
    switched, state = value
    return is_ascending_below(switched, network[0]) and is_state((network, table), state)


def present_fabric(change, switched):
    """Return the network with the present options, which may have dead ends."""
    network, old, new = change
    over = set(switched)
    return (network, tuple([new[u] if u in over else old[u] for u in range(network[0])]))


def can_change(change, state, step):
    """Tell whether a step is possible in a state of the changeover."""
    switched, packed = state
    return can_be_next(present_fabric(change, switched), switched, packed, step)


def can_be_next(fabric, switched, state, step):
    """Tell whether a step is possible behind the switching of some nodes, with the present options of the fabric."""
    if step[0] != "switch":
        return is_possible(fabric, state, step)
    return len(step) == 2 and is_number(step[1], 0, fabric[0][0] - 1) and step[1] not in switched


def changed_by(change, state, step):
    """Return the changeover state behind a possible step; raise NotAllowed if it is not possible."""
    if not can_change(change, state, step):
        raise NotAllowed("the step is not possible")
    return play_change(change, state, (step,))


def play_change(change, state, script):
    """Return the last changeover state of a script; raise NotPossible for the first step that is not possible."""
    switched, (count, packed) = state
    fabric = present_fabric(change, switched)
    queues = list(packed)
    for k, step in enumerate(script):
        if not can_be_next(fabric, switched, (count, queues), step):
            raise NotPossible(k)
        if step[0] == "switch":
            switched = tuple(sorted(switched + step[1:]))
            fabric = present_fabric(change, switched)
        else:
            changed = changes(count, queues, step)
            for c, queue in changed:
                queues[c] = queue
        if step[0] == "put":
            count += 1
    return (switched, (count, tuple(queues)))


def caught(change, state):
    """Return the caught channels, ascending."""
    network, _, new = change
    return blocked((network, new), state[1])


def home_script(change, state, ranks):
    """Return the script that switches the other nodes and brings home all packets by ranks of the case."""
    network, _, new = change
    switched, packed = state
    nodes = [u for u in range(network[0]) if u not in switched]
    return switches(nodes) + drain((network, new), packed, ranks)


def switches(nodes):
    """Return the script by which these nodes switch."""
    return tuple([("switch", u) for u in nodes])


def jam_script(change, knot):
    """Return the script from the start that fills the channels of a knot of the case."""
    network, old, _ = change
    early = [(c, d) for c, d in knot if c in old[network[1][c][0]][d]]
    late = [pair for pair in knot if pair not in early]
    return knot_script(network, early) + switches(list(range(network[0]))) + knot_script(network, late)
