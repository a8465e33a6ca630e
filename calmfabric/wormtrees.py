"""Whether worms can get stuck: a worm knot shows that they can, a search tree that they cannot."""

from calmfabric.cases import case_of
from calmfabric.values import are_below, is_number, is_tuple_of
from calmfabric.verdicts import greatest_knot
from calmfabric.wormways import busy_channels, candidates, usable_channels, way_options


# Lengths of worms that are tried before greater ones.
SHORTER = (2, 8, 64)


def worm_verdict(fabric, longest):
    """Return the pair of "knot" and a worm knot, or of "tree" and a search tree for the situation without anything."""
    knot = greatest_knot(case_of(fabric))
    if knot is not None:
        # Ways of one channel each are short enough for all worms.
        return ("knot", tuple(sorted([(d, (c,)) for c, d in knot])))
    # A knot for shorter worms is one for longer ones, too, and it is found sooner, for they have fewer ways.
    for length in SHORTER:
        if length < longest:
            word, told = searched(fabric, length)
            if word == "knot":
                return (word, told)
    return searched(fabric, longest)


def searched(fabric, longest):
    """Return what worm_verdict does, by splitting again and again."""
    heads = []
    waiting = [((), ())]
    while waiting:
        chosen, barred = waiting.pop()
        order = idle_channels(fabric, longest, chosen, barred)
        shut = barred + order
        if is_closed(fabric, chosen, shut):
            heads.append((("closed", order), 0))
        else:
            needed = needed_channels(fabric, chosen, shut)
            if not needed:
                return ("knot", tuple(sorted(chosen)))
            c, inner = split_at(fabric, longest, chosen, shut, needed)
            heads.append((("split", order, c), len(inner)))
            waiting.extend(inner[::-1])
    return ("tree", joined(heads))


def idle_channels(fabric, longest, chosen, barred):
    """Return all channels through which there is no candidate when those before them are barred, too."""
    order = ()
    more = None
    while more != ():
        busy = busy_channels(fabric, longest, chosen, barred + order)
        usable = usable_channels(fabric, chosen, barred + order)
        more = tuple([c for c, is_usable in enumerate(usable) if is_usable and not busy[c]])
        order = order + more
    return order


def is_closed(fabric, chosen, barred):
    """Tell whether it is plain that no worm knot fits a situation."""
    shut = set(barred)
    if chosen:
        return any([c in shut for d, way in chosen for c in way_options(fabric, d, way)])
    return len(shut) == len(fabric[0][1])


def needed_channels(fabric, chosen, barred):
    """List the channels one of which may be split at; none if the chosen ways are a worm knot."""
    usable = usable_channels(fabric, chosen, barred)
    if chosen:
        return sorted({c for d, way in chosen for c in way_options(fabric, d, way) if usable[c]})
    return [c for c, is_usable in enumerate(usable) if is_usable]


def split_at(fabric, longest, chosen, barred, needed):
    """Return one of the needed channels, and the situations of the trees of a split there."""
    # With chosen ways the fewest situations make by far the smallest trees; without them all would have to be listed.
    told = needed if chosen else needed[:1]
    splits = [(c, situations(fabric, longest, chosen, barred, c)) for c in told]
    return min(splits, key=lambda split: len(split[1]))


def situations(fabric, longest, chosen, barred, c):
    """List the situations of the trees of a split at a channel."""
    inner = [(chosen + (pair,), barred) for pair in candidates(fabric, longest, chosen, barred, c)]
    if not chosen:
        inner.append((chosen, barred + (c,)))
    return inner


def joined(heads):
    """Return the tree of these heads, each before those of the trees in it, with their number."""
    trees = []
    for head, many in reversed(heads):
        inner = [trees.pop() for _ in range(many)]
        trees.append(head + (tuple(inner),) if head[0] == "split" else head)
    return trees[0]


def is_search_tree(fabric, longest, chosen, barred, value):
    """Tell whether any value is a search tree for a situation."""
    waiting = [(chosen, barred, value)]
    while waiting:
        ways, shut, tree = waiting.pop()
        if not is_head(fabric, longest, ways, shut, tree):
            return False
        if tree[0] == "split":
            inner = situations(fabric, longest, ways, shut + tree[1], tree[2])
            if not is_tuple_of(tree[3], len(inner)):
                return False
            waiting.extend([(more, others, part) for (more, others), part in zip(inner, tree[3])])
    return True


def is_head(fabric, longest, chosen, barred, value):
    """Tell whether any value is a search tree for a situation, as far as the trees in it are not looked at."""
    if not isinstance(value, tuple) or len(value) not in (2, 4):
        return False
    if not is_order(fabric, longest, chosen, barred, value[1]):
        return False
    shut = barred + value[1]
    if len(value) == 2:
        return value[0] == "closed" and is_closed(fabric, chosen, shut)
    if value[0] != "split" or not is_number(value[2], 0, len(fabric[0][1]) - 1):
        return False
    return value[2] in needed_channels(fabric, chosen, shut)


def is_order(fabric, longest, chosen, barred, value):
    """Tell whether any value is channels through which there is no candidate when those before them are barred, too."""
    usable = usable_channels(fabric, chosen, barred)
    if not are_below(value, len(usable)) or not all([usable[c] for c in value]):
        return False
    k = 0
    while k < len(value):
        busy = busy_channels(fabric, longest, chosen, barred + value[:k])
        if busy[value[k]]:
            return False
        # Barring more channels makes no other one busy.
        while k < len(value) and not busy[value[k]]:
            k += 1
    return True
