"""Finding a past, or a ring where there is none (points 19 and 21)."""

from everypast.errors import NoPast
from everypast.graphs import across, is_in, leads, mask_of, place_of_ring, places_in, shortest_chain, spread
from everypast.rows import sides_of
from everypast.stocks import check_stock_side


def solve(family):
    """Return a past of the family."""
    check_past(family)
    return row_of(family, completed(family.graph, 0))


def together(family, sides):
    """Return a past with all the sides, or two of them that are not together and a chain that shows it."""
    places = places_of(family, sides)
    check_past(family)
    found = clash(family.graph, places)
    if found is None:
        return ("past", past_with(family, places))
    first, second, path = found
    return ("apart", first, second, path)


def places_of(family, sides):
    """Return the places of the sides of the list, or raise BadSide for the first item that is no side."""
    for side in sides:
        check_stock_side(family.stock, side)
    return [family.graph.places[side] for side in sides]


def has_past(family):
    """Return True if the family has a past, otherwise False."""
    return place_of_ring(family.graph.led) is None


def check_past(family):
    """Raise NoPast with a ring if the family has no past."""
    graph = family.graph
    place = place_of_ring(graph.led)
    if place is not None:
        raise NoPast(shortest_chain(graph, place, across(place)), shortest_chain(graph, across(place), place))


def clash(graph, places):
    """Return two sides at these places, or one twice, and a chain from the first to the opposite of the second.

    Return None if there are none: then the sides are together, where there is a past.
    """
    for at, first in enumerate(places):
        for second in places[:at + 1]:
            if leads(graph, first, across(second)):
                return (graph.listed[first], graph.listed[second], shortest_chain(graph, first, across(second)))
    return None


def past_with(family, places):
    """Return a past that has the sides at these places, which are together."""
    return row_of(family, completed(family.graph, spread(family.graph, places)))


def completed(graph, mask):
    """Return the mask of a past that has the sides of the mask, where there is a past.

    The mask has all sides to which its sides lead, and no opposite ones.
    """
    for place in range(0, len(graph.listed), 2):
        if not is_in(place, mask) and not is_in(across(place), mask):
            mask = mask | graph.led[_choice(graph, place)]
    return mask


def _choice(graph, place):
    """Return the place of a side of this wall that does not lead to its opposite."""
    return across(place) if leads(graph, place, across(place)) else place


def row_of(family, mask):
    """Return the row that has the sides of the mask, one for each wall."""
    chosen = {family.graph.listed[place]: True for place in places_in(mask)}
    return [_position_of(family.stock.shape_of(name), name, chosen) for name in family.stock.names]


def _position_of(shape, name, chosen):
    """Return the position of the cell that has all chosen sides."""
    # The chosen branches lie one inside the other: the position is the topmost one of the innermost branch.
    for wall in range(shape.size, 0, -1):
        if (name, wall) in chosen:
            return wall
    return 0


def mask_of_row(family, row):
    """Return the mask of the sides that the row has."""
    return mask_of([family.graph.places[side] for side in sides_of(family.stock, row)])
