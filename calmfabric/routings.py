"""Routing tables of known forms."""

from calmfabric.distances import channels_from, distances, is_connected
from calmfabric.errors import NotAllowed
from calmfabric.frames import link_of, mesh, network_of, node_at, place_of, placed, torus
from calmfabric.networks import is_full
from calmfabric.tables import thinned, undone, union


def shortest(network):
    """Return the table of all shortest ways."""
    far = distances(network)
    return tuple([shortest_row(network, far, u, numbers) for u, numbers in enumerate(channels_from(network))])


def shortest_row(network, far, u, numbers):
    """Return the row of the node u, from which the channels with these numbers lead."""
    n, channels = network
    ends = [(c, channels[c][1]) for c in numbers]
    return tuple([tuple([c for c, v in ends if is_nearer(far, v, u, d)]) for d in range(n)])


def is_nearer(far, v, u, d):
    """Tell whether the distance to d is less by 1 from v than from u."""
    return far[u][d] is not None and far[v][d] == far[u][d] - 1


def dimension_order(sizes, lanes):
    """Return the table of a mesh that goes along one coordinate after the other."""
    return mesh_table(sizes, mesh_network(sizes, lanes), first_of_all)


def negative_first(sizes, lanes):
    """Return the table of a mesh that lowers coordinates before it raises others."""
    return mesh_table(sizes, mesh_network(sizes, lanes), lowering_first)


def west_first(sizes, lanes):
    """Return the table of a mesh that lowers the second of two coordinates before all else."""
    return mesh_table(sizes, plane_network(sizes, lanes), west_before_others)


def north_last(sizes, lanes):
    """Return the table of a mesh that raises the first of two coordinates after all else."""
    return mesh_table(sizes, plane_network(sizes, lanes), others_before_north)


def mesh_network(sizes, lanes):
    """Return the network of a mesh with these lanes."""
    # The tables and ranks are the same with any room.
    return network_of(mesh(sizes), lanes, 1)


def plane_network(sizes, lanes):
    """Return the network of a mesh with two sizes; raise NotAllowed if there are not two."""
    if len(sizes) != 2:
        raise NotAllowed("there are not two sizes")
    return mesh_network(sizes, lanes)


def torus_network(sizes, lanes):
    """Return the network of a torus with at least two lanes; raise NotAllowed if there are fewer."""
    if lanes < 2:
        raise NotAllowed("there are not two lanes")
    return network_of(torus(sizes), lanes, 1)


def mesh_table(sizes, network, choose):
    """Return the table in which packets take those useful moves that the function chooses."""
    between = channels_between(network)
    places = [place_of(sizes, u) for u in range(network[0])]
    rows = [[mesh_cell(sizes, between, place, goal, choose) for goal in places] for place in places]
    return tuple([tuple(row) for row in rows])


def channels_between(network):
    """Return a dict of the channels from u to v, ascending, by pairs (u, v)."""
    between = {}
    for c, (u, v, _) in enumerate(network[1]):
        between.setdefault((u, v), []).append(c)
    return between


def mesh_cell(sizes, between, place, goal, choose):
    """Return the options at a place for the place of a goal."""
    u = node_at(sizes, place)
    moves = choose(useful_moves(place, goal))
    targets = [node_at(sizes, placed(place, i, place[i] + by)) for i, by in moves]
    return tuple(sorted([c for v in targets for c in between[u, v]]))


def useful_moves(place, goal):
    """List the pairs of a coordinate that is not yet that of the goal, and 1 or -1 to bring it nearer."""
    pairs = list(zip(place, goal))
    return [(i, 1 if here < there else -1) for i, (here, there) in enumerate(pairs) if here != there]


def first_of_all(moves):
    """Choose the move of the first coordinate."""
    return moves[:1]


def lowering_first(moves):
    """Choose the moves that lower a coordinate, or all if there are none."""
    return [(i, by) for i, by in moves if by == -1] or moves


def west_before_others(moves):
    """Choose the move that lowers the second coordinate, or all if it is none of them."""
    return [(i, by) for i, by in moves if (i, by) == (1, -1)] or moves


def others_before_north(moves):
    """Choose the moves that do not raise the first coordinate, or all if there are none."""
    return [(i, by) for i, by in moves if (i, by) != (0, 1)] or moves


def dateline(sizes, lanes):
    """Return the table of a torus that changes lanes at the end of each row."""
    network = torus_network(sizes, lanes)
    between = channels_between(network)
    places = [place_of(sizes, u) for u in range(network[0])]
    rows = [[dateline_cell(sizes, between, place, goal) for goal in places] for place in places]
    return tuple([tuple(row) for row in rows])


def dateline_cell(sizes, between, place, goal):
    """Return the options at a place of a torus for the place of a goal."""
    moves = useful_moves(place, goal)
    if not moves:
        return ()
    i = moves[0][0]
    coordinate, lane = ring_move(place[i], goal[i], sizes[i])
    u = node_at(sizes, place)
    v = node_at(sizes, placed(place, i, coordinate))
    return (between[u, v][lane],)


def ring_move(here, there, size):
    """Return the next coordinate and the lane on the way to another coordinate of a row."""
    if size <= 2:
        return (there, 0)
    if 2 * ((there - here) % size) <= size:
        return ((here + 1) % size, 1 if there < here else 0)
    return ((here - 1) % size, 1 if there > here else 0)


def up_down(network, root):
    """Return the table that goes up towards the root, and down where the goal is below."""
    n = network[0]
    position = positions(network, root)
    ups = sloping(network, position, 1)
    downs = sloping(network, position, -1)
    columns = [up_down_column(undone(position), ups, downs, d) for d in range(n)]
    return tuple([tuple([column[u] for column in columns]) for u in range(n)])


def positions(network, root):
    """List the positions of the nodes; raise NotAllowed if the network has no table of up and down."""
    n, channels = network
    if not is_connected(network):
        raise NotAllowed("the network is not connected")
    far = distances(network)[root]
    order = sorted([(far[u], u) for u in range(n)])
    position = undone([node for _, node in order])
    climbers = {u for u, v, _ in channels if position[v] < position[u]}
    if not all([u == root or u in climbers for u in range(n)]):
        raise NotAllowed("a node has no channel up")
    return position


def sloping(network, position, sign):
    """List for each node its channels that are up (sign 1) or down (sign -1), with their targets."""
    channels = network[1]
    rows = [[(c, channels[c][1]) for c in numbers] for numbers in channels_from(network)]
    return [[(c, v) for c, v in row if sign * (position[u] - position[v]) > 0] for u, row in enumerate(rows)]


def up_down_column(order, ups, downs, d):
    """List the options of all nodes for the goal d; order has the nodes by their positions."""
    over = nodes_over(order, downs, d)
    return [up_down_cell(ups[u], downs[u], over, over[u]) if u != d else () for u in range(len(order))]


def up_down_cell(up, down, over, is_over):
    """Return the options of a node with these channels up and down for another node."""
    if is_over:
        return tuple([c for c, v in down if over[v]])
    return tuple([c for c, _ in up])


def nodes_over(order, downs, d):
    """List for each node whether d can be reached from it by down channels alone."""
    over = [False] * len(order)
    # Down channels lead to greater positions, so these come first.
    for u in reversed(order):
        over[u] = u == d or any([over[v] for _, v in downs[u]])
    return over


def in_lanes(network, table, lanes, chosen):
    """Return the part of a table in the chosen lanes, thinned."""
    rows = [[chosen_part(cell, lanes, chosen) for cell in row] for row in table]
    return thinned(network, tuple([tuple(row) for row in rows]))


def chosen_part(cell, lanes, chosen):
    """Return the options that are in one of the chosen lanes."""
    return tuple([c for c in cell if link_of(lanes, c)[2] in chosen])


def with_escape(network, base, other):
    """Return the union of a full table and another one that has no channel in common with it."""
    if not is_full((network, base)):
        raise NotAllowed("not all pairs of nodes are served")
    taken = set(channels_of(base))
    if any([c in taken for c in channels_of(other)]):
        raise NotAllowed("a channel is an option in both tables")
    return union(base, other)


def channels_of(table):
    """List the channels that are options, ascending."""
    return sorted({c for row in table for cell in row for c in cell})
