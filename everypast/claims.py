"""Verdicts about sides, bonds and claims (points 20 and 22)."""

from everypast.bonds import check_bond
from everypast.errors import NotOpen
from everypast.graphs import across, is_certain, is_open, leads
from everypast.solving import check_past, together
from everypast.stocks import check_stock_side, opposite


def verdict(family, side):
    """Return "certain", "impossible" or "open"."""
    check_stock_side(family.stock, side)
    check_past(family)
    place = family.graph.places[side]
    if is_certain(family.graph, place):
        return "certain"
    if is_certain(family.graph, across(place)):
        return "impossible"
    return "open"


def place_of_open(family, side):
    """Return the place of the open side, or raise BadSide, NoPast or NotOpen."""
    check_stock_side(family.stock, side)
    check_past(family)
    place = family.graph.places[side]
    if not is_open(family.graph, place):
        raise NotOpen(side)
    return place


def certain_sides(family):
    """Return all certain sides of the stock, in their order."""
    check_past(family)
    graph = family.graph
    return [side for place, side in enumerate(graph.listed) if is_certain(graph, place)]


def open_sides(family):
    """Return all open sides of the stock, in their order."""
    check_past(family)
    graph = family.graph
    return [side for place, side in enumerate(graph.listed) if is_open(graph, place)]


def bond_holds(family, bond):
    """Return True if every past keeps the bond, otherwise False."""
    check_bond(family.stock, bond)
    check_past(family)
    graph = family.graph
    first = graph.places[bond[0]]
    last = graph.places[bond[-1]]
    return is_certain(graph, first) or is_certain(graph, last) or leads(graph, across(first), last)


def settle(family, sides):
    """Return two sides of the claim and a chain that shows that it holds, or a past with none of its sides."""
    for side in sides:
        check_stock_side(family.stock, side)
    # The claim fails exactly if the opposites of its sides are together.
    answer = together(family, [opposite(side) for side in sides])
    if answer[0] == "past":
        return ("fails", answer[1])
    _, first, second, path = answer
    return ("holds", opposite(first), opposite(second), path)
