"""Steps between sides and chains of them (points 17 and 18)."""

from everypast.graphs import places_in, shortest_chain
from everypast.stocks import check_stock_side, opposite


def steps_from(family, side):
    """Return the pairs (target, source) of all steps from the side, in order."""
    check_stock_side(family.stock, side)
    graph = family.graph
    return [(graph.listed[target], source) for target, source in graph.ahead[graph.places[side]]]


def reached(family, side):
    """Return the sides to which the side leads, with itself, in their order."""
    check_stock_side(family.stock, side)
    graph = family.graph
    return [graph.listed[place] for place in places_in(graph.led[graph.places[side]])]


def chain(family, start, goal):
    """Return a chain from the first side to the second one with as few steps as possible, or None."""
    check_stock_side(family.stock, start)
    check_stock_side(family.stock, goal)
    graph = family.graph
    return shortest_chain(graph, graph.places[start], graph.places[goal])


def turned(path):
    """Return the chain turned: the opposites of its sides, and its sources, both in reverse order."""
    sides, sources = path
    return ([opposite(side) for side in sides[::-1]], list(sources[::-1]))
