"""Networks, tables and values that several tests use."""

import random


def deep(levels, inner=()):
    """A tuple in a tuple .., as many levels deep."""
    value = inner
    for _ in range(levels - 1):
        value = (value,)
    return value


# Values that stand for no integer, node, channel or tuple of them.
WRONG_KINDS = (None, True, False, "", "0", "1", "nodes", deep(80), deep(80, (0, None, "x")), ("0",), (None,))
WRONG_INTEGERS = (-1, -2, 10 ** 3000, -10 ** 3000)


def put_at(value, path, new):
    """The value with something else at a path of indexes."""
    if not path:
        return new
    k = path[0]
    return value[:k] + (put_at(value[k], path[1:], new),) + value[k + 1:]


def paths_of(value, path=()):
    """The paths to all parts of a value, the value itself among them."""
    found = [path]
    if isinstance(value, tuple):
        for k, part in enumerate(value):
            found.extend(paths_of(part, path + (k,)))
    return found


def table_of(n, cells):
    """The table with the options that a dict has for pairs (u, d)."""
    return tuple(tuple(tuple(cells.get((u, d), ())) for d in range(n)) for u in range(n))


def ring(n, room=1):
    """A ring of channels i -> i + 1, with all pairs served."""
    channels = tuple((u, (u + 1) % n, room) for u in range(n))
    return ((n, channels), table_of(n, {(u, d): (u,) for u in range(n) for d in range(n) if u != d}))


def chain(n):
    """A row of channels i -> i + 1 that leads to the last node alone."""
    channels = tuple((u, u + 1, 1) for u in range(n - 1))
    return ((n, channels), table_of(n, {(u, n - 1): (u,) for u in range(n - 1)}))


def greatest():
    """A full fabric of 64 nodes and 400 channels with as many options as there may be."""
    channels = tuple((u, (u + 1) % 64, 1000) for u in range(64))
    channels += tuple((u % 64, (u + 1 + u // 64) % 64, 1) for u in range(64, 400))
    out = [tuple(c for c in range(400) if channels[c][0] == u) for u in range(64)]
    return ((64, channels), table_of(64, {(u, d): out[u] for u in range(64) for d in range(64) if u != d}))


# Two channels 0 -> 1, one back, and a node 2 that has no channel.
DOUBLE_NETWORK = (3, ((0, 1, 2), (0, 1, 1000), (1, 0, 1)))
DOUBLE = (DOUBLE_NETWORK, (((), (0, 1), ()), ((2,), (), ()), ((), (), ())))

RING3 = ring(3)
RING5 = ring(5, 7)
CHAIN4 = chain(4)
NO_OPTIONS = ((2, ((0, 1, 1),)), (((), ()), ((), ())))
PAIR = ((2, ((0, 1, 3), (1, 0, 3))), (((), (0,)), ((1,), ())))
# The two channels out of node 0 have higher and lower numbers than the one of node 1.
MIXED = (
    (4, ((2, 3, 1), (0, 2, 5), (1, 3, 2), (0, 1, 4), (3, 0, 1), (0, 1, 4))),
    table_of(4, {
        (0, 1): (3, 5), (0, 2): (1,), (0, 3): (1, 3, 5), (1, 0): (2,), (1, 3): (2,),
        (2, 0): (0,), (2, 3): (0,), (3, 0): (4,), (3, 1): (4,), (3, 2): (4,),
    }),
)
FABRICS = (PAIR, NO_OPTIONS, DOUBLE, RING3, RING5, CHAIN4, MIXED)


def random_network(seed):
    rng = random.Random(seed)
    n = rng.randint(2, 7)
    channels = []
    for _ in range(rng.randint(1, 16)):
        u, v = rng.sample(range(n), 2)
        channels.append((u, v, rng.choice((1, 2, 1000))))
    return (n, tuple(channels))


def random_table(network, seed):
    """A table that mostly has dead ends."""
    rng = random.Random(seed)
    n, channels = network
    likely = rng.choice((0.3, 0.6, 0.9, 1.0))
    cells = {}
    for u in range(n):
        for d in range(n):
            if u != d:
                cells[u, d] = [c for c in range(len(channels)) if channels[c][0] == u and rng.random() < likely]
    return table_of(n, cells)


def plain_dead_ends(network, table):
    """The dead ends by the words of [1.2]."""
    n, channels = network
    return [
        (u, d, c)
        for u in range(n) for d in range(n) for c in range(len(channels))
        if c in table[u][d] and channels[c][1] != d and table[channels[c][1]][d] == ()
    ]


def plain_thinned(network, table, choose):
    """The table from which one dead end after the other was taken out, the one that is chosen."""
    rows = [[list(cell) for cell in row] for row in table]
    while True:
        now = tuple(tuple(tuple(cell) for cell in row) for row in rows)
        ends = plain_dead_ends(network, now)
        if not ends:
            return now
        u, d, c = choose(ends)
        rows[u][d].remove(c)


def random_fabric(seed):
    """A fabric, of a table that was thinned by the plain way."""
    network = random_network(seed)
    return (network, plain_thinned(network, random_table(network, seed), lambda ends: ends[0]))
