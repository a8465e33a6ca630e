"""Distances between the nodes of a network."""


def distances(network):
    """Return the distances from each node to each node, None where there is none."""
    leaving = channels_from(network)
    return tuple([distances_from(network, leaving, u) for u in range(network[0])])


def channels_from(network):
    """List for each node the channels that begin there, ascending."""
    n, channels = network
    leaving = [[] for _ in range(n)]
    for c, channel in enumerate(channels):
        leaving[channel[0]].append(c)
    return leaving


def distances_from(network, leaving, u):
    """Return the distances from the node u to each node."""
    n, channels = network
    found = [None] * n
    found[u] = 0
    reached = [u]
    length = 0
    while reached:
        length += 1
        ahead = []
        for v in reached:
            for c in leaving[v]:
                target = channels[c][1]
                if found[target] is None:
                    found[target] = length
                    ahead.append(target)
        reached = ahead
    return tuple(found)


def is_connected(network):
    """Tell whether each node has a distance to each other one."""
    return all([distance is not None for row in distances(network) for distance in row])
