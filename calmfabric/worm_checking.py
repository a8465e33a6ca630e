"""Worm knots and search trees for the checker, which uses no other part."""

from calmfabric.checking import has_length, is_between, is_placement


def is_worm_knot(fabric, longest, value):
    """Tell whether any value is a worm knot."""
    if not isinstance(value, tuple) or len(value) == 0:
        return False
    if not all([is_waiting(fabric, longest, pair) for pair in value]):
        return False
    if any([value[k] >= value[k + 1] for k in range(len(value) - 1)]):
        return False
    held = {}
    for _, way in value:
        for c in way:
            if c in held:
                return False
            held[c] = True
    return all([option in held for d, way in value for option in exits(fabric, d, way)])


def is_waiting(fabric, longest, value):
    """Tell whether any value is a pair of a goal and a way for it that is not home and not too long."""
    network, _ = fabric
    if not has_length(value, 2):
        return False
    d, way = value
    if not is_way(fabric, d, way) or network[1][way[-1]][1] == d:
        return False
    return shortest_worm(network, way) <= longest


def is_way(fabric, d, value):
    """Tell whether any values are a goal and a way for it."""
    network, table = fabric
    if not isinstance(value, tuple) or len(value) == 0:
        return False
    if not all([is_between(c, 0, len(network[1]) - 1) for c in value]) or len(set(value)) != len(value):
        return False
    if not is_placement(network, table, value[0], d):
        return False
    return all([value[k + 1] in exits(fabric, d, value[:k + 1]) for k in range(len(value) - 1)])


def exits(fabric, d, way):
    """Return the options of a way."""
    network, table = fabric
    return table[network[1][way[-1]][1]][d]


def shortest_worm(network, way):
    """Return the least length of a way."""
    return 1 + sum([network[1][c][2] for c in way[1:]])


def is_search_tree(fabric, longest, value):
    """Tell whether any value is a search tree for the situation in which nothing is chosen or barred."""
    # Trees may be deeper than calls, so they are not looked at by a function that calls itself.
    waiting = [((), (), value)]
    while waiting:
        chosen, barred, tree = waiting.pop()
        if not is_tree_top(fabric, longest, chosen, barred, tree):
            return False
        shut = barred + tree[1]
        if tree[0] == "split":
            _, _, c, trees = tree
            pairs = candidates(fabric, longest, chosen, shut, c)
            inner = [(chosen + (pair,), shut) for pair in pairs]
            if not chosen:
                inner.append((chosen, shut + (c,)))
            if not has_length(trees, len(inner)):
                return False
            waiting.extend([(some, more, part) for (some, more), part in zip(inner, trees)])
    return True


def is_tree_top(fabric, longest, chosen, barred, value):
    """Tell whether any value is a search tree for a situation, but for the trees in it."""
    many = len(fabric[0][1])
    if not isinstance(value, tuple) or len(value) not in (2, 4):
        return False
    if value[0] != ("closed" if len(value) == 2 else "split"):
        return False
    if not is_order(fabric, longest, chosen, barred, value[1]):
        return False
    shut = barred + value[1]
    ends = [c for d, way in chosen for c in exits(fabric, d, way)]
    if value[0] == "split":
        c = value[2]
        return is_between(c, 0, many - 1) and is_open(chosen, shut, c) and (not chosen or c in ends)
    if chosen:
        return any([c in shut for c in ends])
    return all([c in shut for c in range(many)])


def is_open(chosen, barred, c):
    """Tell whether a channel is neither barred nor on a chosen way."""
    return c not in barred and not any([c in way for _, way in chosen])


def is_order(fabric, longest, chosen, barred, value):
    """Tell whether any value is a tuple of channels that have no candidates, one after the other."""
    many = len(fabric[0][1])
    if not isinstance(value, tuple) or not all([is_between(c, 0, many - 1) for c in value]):
        return False
    if not all([is_open(chosen, barred, c) for c in value]):
        return False
    looked_at = 0
    while looked_at < len(value):
        with_way = channels_with_way(fabric, longest, chosen, barred + value[:looked_at])
        if with_way[value[looked_at]]:
            return False
        # Channels that have no candidates now have none when more is barred.
        while looked_at < len(value) and not with_way[value[looked_at]]:
            looked_at += 1
    return True


def channels_with_way(fabric, longest, chosen, barred):
    """List for each channel whether there is a candidate through it."""
    network, table = fabric
    found = [False] * len(network[1])
    for d in range(network[0]):
        usable = usable_for(fabric, chosen, barred, d)
        costs = costs_to_end(fabric, usable, barred, d)
        for c in usable:
            # The shortest candidate through a channel begins with it.
            cost = costs[network[1][c][1]]
            if cost is not None and 1 + cost <= longest:
                found[c] = True
    return found


def usable_for(fabric, chosen, barred, d):
    """List the channels for the goal that are neither barred nor on a chosen way, ascending."""
    taken = {c: True for c in barred}
    for _, way in chosen:
        for c in way:
            taken[c] = True
    return sorted([c for row in fabric[1] for c in row[d] if c not in taken])


def costs_to_end(fabric, usable, barred, d):
    """List for each node the least rooms of usable channels through which a way goes on from it to its end.

    A way may end at a node where there are options and none is barred. None if no end can be reached.
    """
    network, table = fabric
    shut = set(barred)
    ends = [len(row[d]) > 0 and not any([option in shut for option in row[d]]) for row in table]
    costs = [0 if is_last else None for is_last in ends]
    cheaper = True
    while cheaper:
        cheaper = False
        for c in usable:
            source, target, room = network[1][c]
            if costs[target] is not None:
                cost = costs[target] + room
                if costs[source] is None or cost < costs[source]:
                    costs[source] = cost
                    cheaper = True
    return costs


def candidates(fabric, longest, chosen, barred, c):
    """List the candidates through a channel, ascending."""
    found = []
    for d in range(fabric[0][0]):
        usable = usable_for(fabric, chosen, barred, d)
        if c in usable:
            for tail in rows_from(fabric, longest, usable, barred, d, c):
                found.extend([(d, way) for way in rows_to(fabric, longest, usable, tail)])
    return sorted(found)


def rows_from(fabric, longest, usable, barred, d, c):
    """List the candidates for a goal that begin with a channel."""
    network, _ = fabric
    costs = costs_to_end(fabric, usable, barred, d)
    found = []
    waiting = [(c,)]
    while waiting:
        row = waiting.pop()
        cost = costs[network[1][row[-1]][1]]
        # A row that comes to no end in time is not followed any further.
        if cost is not None and shortest_worm(network, row) + cost <= longest:
            if cost == 0:
                found.append(row)
            ahead = [option for option in exits(fabric, d, row) if option in usable and option not in row]
            waiting.extend([row + (option,) for option in ahead])
    return found


def rows_to(fabric, longest, usable, tail):
    """List the rows of usable channels with this end that are not too long, that end itself among them."""
    network, _ = fabric
    found = []
    waiting = [tail]
    while waiting:
        row = waiting.pop()
        if shortest_worm(network, row) <= longest:
            found.append(row)
            source = network[1][row[0]][0]
            waiting.extend([(c,) + row for c in usable if network[1][c][1] == source and c not in row])
    return found
