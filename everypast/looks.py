"""Looks: what they settle, and what is gained by them (points 37 and 38)."""

from everypast.claims import place_of_open
from everypast.errors import BadCost, BadLook
from everypast.graphs import across, is_certain, open_places, places_in, spread
from everypast.news import check_together, given
from everypast.possible import position_masks, possible_positions
from everypast.solving import check_past, places_of
from everypast.stocks import is_wall
from everypast.ties import tie_of
from everypast.twins import near_twins


def settles(family, looks, side):
    """Return a side of the tie of the open side whose wall a look shows, or near twins that look alike."""
    _check_looks(family, looks)
    tie = tie_of(family, side)
    for shown in tie:
        if any(_shows(look, shown) for look in looks):
            return ("settles", shown)
    without, with_side = near_twins(family, side)
    return ("twins", without, with_side)


def _check_looks(family, looks):
    """Raise BadLook for the first tuple that is not a look."""
    for place, look in enumerate(looks):
        if not _is_look(family.stock, look):
            raise BadLook(place)


def _is_look(stock, look):
    """Return True if the tuple is a look at a cell or at a wall of the stock, otherwise False."""
    if len(look) == 2:
        return look[0] == "cell" and isinstance(look[1], str) and look[1] in stock
    if len(look) == 3:
        return look[0] == "wall" and is_wall(stock, look[1:])
    return False


def _shows(look, side):
    """Return True if the look shows the wall of the side, otherwise False."""
    if look[0] == "cell":
        return look[1] == side[0]
    return look[1:] == (side[0], abs(side[1]))


def gained(family, shown):
    """Return each side that is gained when these sides have been shown, with a giver and a chain from it."""
    places = places_of(family, shown)
    check_past(family)
    check_together(family, places)
    graph = family.graph
    return given(graph, places, places_in(spread(graph, places) & open_places(graph)))


def outcomes(family, look):
    """Return the pairs of the outcomes of the look with their yields, in their order."""
    _check_looks(family, [look])
    check_past(family)
    return _outcomes(family, look)


def _outcomes(family, look):
    """Return the pairs of the outcomes with their yields for a look of a family with a past."""
    loose = open_places(family.graph)
    # The mask of a possible outcome has exactly one side of each wall that is gained.
    return [(outcome, len(places_in(mask & loose))) for outcome, mask in _shown_masks(family, look)]


def _shown_masks(family, look):
    """Return each outcome of the look with the mask of all sides to which the shown sides lead."""
    graph = family.graph
    if look[0] == "cell":
        masks = position_masks(family, look[1])
        return [(position, masks[position]) for position in possible_positions(family, look[1])]
    place = graph.places[look[1:]]
    return [
        (number, graph.led[shown])
        for number, shown in ((look[2], place), (-look[2], across(place)))
        if not is_certain(graph, across(shown))
    ]


def least_yield(family, look):
    """Return the least of the yields of the outcomes of the look."""
    return min([gain for _, gain in outcomes(family, look)])


def best_look(family, looks, costs):
    """Return the index of the first look with the greatest least yield for its cost, or None if all yield nothing."""
    _check_looks(family, looks)
    _check_costs(looks, costs)
    check_past(family)
    best = None
    for place, look in enumerate(looks):
        gain = least_yield(family, look)
        # Quotients are compared without rounding, crosswise; the costs are at least 1.
        if gain > 0 and (best is None or gain * costs[best[0]] > best[1] * costs[place]):
            best = (place, gain)
    return None if best is None else best[0]


def _check_costs(looks, costs):
    """Raise BadCost for the first cost less than 1, or for the number of costs if it is wrong."""
    for place, cost in enumerate(costs):
        if cost < 1:
            raise BadCost(place)
    if len(costs) != len(looks):
        raise BadCost(len(costs))
