"""Free walls, free ties and free sets (points 34 and 35)."""

from everypast.errors import BadSide
from everypast.graphs import across, is_clear, leads, mask_of, places_in, shortest_chain
from everypast.listing import count_pasts
from everypast.solving import check_past
from everypast.stocks import is_wall
from everypast.ties import tie_masks


def free(family, walls):
    """Return ("free",), or two sides of the walls and a chain from the first one to the opposite of the second one."""
    places = _places_of_walls(family, walls)
    check_past(family)
    graph = family.graph
    for first, second in _pairs_of_sides(places):
        if leads(graph, first, across(second)):
            path = shortest_chain(graph, first, across(second))
            return ("bound", graph.listed[first], graph.listed[second], path)
    return ("free",)


def _places_of_walls(family, walls):
    """Return the places of the first sides of the walls, or raise BadSide for the first item that is no wall."""
    for wall in walls:
        if not is_wall(family.stock, wall):
            raise BadSide(wall)
    return [family.graph.places[wall] for wall in walls]


def _pairs_of_sides(places):
    """Return each side of the walls with itself, and with each side of the walls before it in the list."""
    both = [(place, across(place)) for place in places]
    same = [(side, side) for sides in both for side in sides]
    # A wall that occurs twice meets itself here, and each of its sides leads to the opposite of the other one.
    return same + [
        (first, second)
        for at, sides in enumerate(both)
        for others in both[:at]
        for first in sides
        for second in others
    ]


def answers(family, walls):
    """Return the rows of 1 and -1 that pasts answer to the walls, in ascending order."""
    places = _places_of_walls(family, walls)
    check_past(family)
    beginnings = [([], 0)]
    for place in places:
        beginnings = _answered(family.graph, beginnings, place)
    return [row for row, _ in beginnings]


def _answered(graph, beginnings, place):
    """Return the rows with their masks, each one with each answer to this wall that is possible beside it."""
    return [
        ([*row, answer], mask | graph.led[side])
        for row, mask in beginnings
        for answer, side in ((-1, across(place)), (1, place))
        if is_clear(graph, mask | graph.led[side])
    ]


def free_ties(family):
    """Return the pairs of the indexes of listed ties that are free of each other, in ascending order."""
    check_past(family)
    graph = family.graph
    firsts = [places_in(mask)[0] for mask in tie_masks(graph)]
    return [
        (low, high)
        for low, place in enumerate(firsts)
        for high in range(low + 1, len(firsts))
        if _are_free(graph, place, firsts[high])
    ]


def _are_free(graph, place, other):
    """Return True if no side of the wall at one place leads to a side of the wall at the other, otherwise False."""
    walls = mask_of([other, across(other)])
    return (graph.led[place] | graph.led[across(place)]) & walls == 0


def count_free_sets(family, *, limit=50):
    """Return the number of free sets, but at most the limit."""
    check_past(family)
    # There are exactly as many free sets as pasts.
    return count_pasts(family, limit=limit)
