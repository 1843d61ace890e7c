"""Finding a past, or a ring where there is none (points 19 and 21)."""

from everypast.errors import NoPast
from everypast.graphs import across, first_steps, leads, shortest_chain
from everypast.stocks import check_stock_side


def solve(family):
    """Return a past of the family."""
    return _row_of(family, completed(family, []))


def together(family, sides):
    """Return a past with all the sides, or two of them that are not together and a chain that shows it."""
    for side in sides:
        check_stock_side(family.stock, side)
    check_past(family)
    graph = family.graph
    places = [graph.places[side] for side in sides]
    for at, first in enumerate(places):
        for second in places[:at + 1]:
            if leads(graph, first, across(second)):
                path = shortest_chain(graph, first, across(second))
                return ("apart", graph.listed[first], graph.listed[second], path)
    return ("past", _row_of(family, completed(family, places)))


def check_past(family):
    """Raise NoPast with a ring if the family has no past."""
    completed(family, [])


def completed(family, places):
    """Return the places of the sides of a past that has the sides at these places, which are together."""
    graph = family.graph
    chosen = {}
    for place in places:
        chosen.update(first_steps(graph, place))
    # Only the first side of each wall is looked at: its opposite stands at the next place.
    for place in range(0, len(graph.listed), 2):
        if place not in chosen and across(place) not in chosen:
            chosen.update(_choice(graph, place))
    return sorted(chosen)


def _choice(graph, place):
    """Return all places to which a side of this wall leads that does not lead to its opposite."""
    there = first_steps(graph, place)
    if across(place) not in there:
        return there
    back = first_steps(graph, across(place))
    if place not in back:
        return back
    raise NoPast(shortest_chain(graph, place, across(place)), shortest_chain(graph, across(place), place))


def _row_of(family, places):
    """Return the row that has the sides at these places, one for each wall."""
    chosen = {family.graph.listed[place]: True for place in places}
    return [_position_of(family.stock.shape_of(name), name, chosen) for name in family.stock.names]


def _position_of(shape, name, chosen):
    """Return the position of the cell that has all chosen sides."""
    # The chosen branches lie one inside the other: the position is the topmost one of the innermost branch.
    for wall in range(shape.size, 0, -1):
        if (name, wall) in chosen:
            return wall
    return 0
