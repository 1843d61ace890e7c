"""News: the past nearest to a past that has some sides (point 36)."""

from everypast.errors import NotTogether
from everypast.graphs import chain_along, first_steps, places_in, spread
from everypast.listing import check_is_past
from everypast.solving import check_past, clash, mask_of_row, places_of, row_of
from everypast.twins import taking


def news(family, row, sides):
    """Return the past with all the sides that is nearest to the past `row`, and why each changed wall must change."""
    places = places_of(family, sides)
    check_past(family)
    check_is_past(family, row)
    check_together(family, places)
    graph = family.graph
    mask = mask_of_row(family, row)
    missing = spread(graph, places) & ~mask
    nearest = row_of(family, taking(graph, mask, missing))
    return (nearest, given(graph, places, places_in(missing)))


def check_together(family, places):
    """Raise NotTogether if no past has all sides at these places."""
    found = clash(family.graph, places)
    if found is not None:
        first, second, path = found
        raise NotTogether(first, second, path)


def given(graph, givers, places):
    """Return, for each of the places, its side, a giver that leads to it, and a chain from the giver to it."""
    found = {giver: first_steps(graph, giver) for giver in givers}
    entries = []
    for place in places:
        giver = [other for other in givers if place in found[other]][0]
        entries.append((graph.listed[place], graph.listed[giver], chain_along(graph, found[giver], place)))
    return entries
