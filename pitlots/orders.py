"""Blocks of new grounds put in their least order.

Nodes are what shall be blocks, numbered as they are preferred; firsts is a list, for each node, of the list of the
nodes that it needs first, in whatever order, some of them perhaps twice.
"""


def least_order(firsts):
    """The list of the nodes: again and again the first one comes of those that need none that has not come.

    It is shorter than firsts if some nodes need one another in a ring.
    """
    order = []
    ready = ready_nodes(firsts, order)
    while ready:
        order.append(ready[0])
        ready = ready_nodes(firsts, order)
    return order


def ready_nodes(firsts, order):
    """The ascending list of the nodes that can come next."""
    left = [node for node in range(len(firsts)) if node not in order]
    return [node for node in left if all([first in order for first in firsts[node]])]


def places_by(order):
    """For each node its place in an order of all of them."""
    return [order.index(node) for node in range(len(order))]


def covers_by(firsts, order):
    """The covers of the ground in which all nodes stand in an order."""
    names = places_by(order)
    return tuple([tuple(sorted({names[first] for first in firsts[node]})) for node in order])
