"""Near twins and trails of them (points 31 and 32)."""

from everypast.claims import place_of_open
from everypast.graphs import across, opposites, places_in
from everypast.listing import check_is_past
from everypast.solving import check_past, completed, mask_of_row, row_of
from everypast.ties import tie_mask


def near_twins(family, side):
    """Return two pasts that differ in the walls of one tie; only the second one has the open side."""
    graph = family.graph
    place = place_of_open(family, side)
    tie = tie_mask(graph, place)
    # A past without the side that has all else to which the side leads can take the tie and needs nothing more.
    without = completed(graph, graph.led[across(place)] | (graph.led[place] & ~tie))
    return (row_of(family, without), row_of(family, taking(graph, without, tie)))


def taking(graph, mask, sides):
    """Return the mask with these sides in the place of their opposites."""
    return (mask & ~opposites(graph, sides)) | sides


def are_near(family, row, other):
    """Return True if both lists are pasts of the family and near twins, otherwise False."""
    if not family.is_past(row) or not family.is_past(other):
        return False
    gained = mask_of_row(family, row) & ~mask_of_row(family, other)
    if gained == 0:
        return False
    return tie_mask(family.graph, places_in(gained)[0]) == gained


def trail(family, start, goal):
    """Return a shortest list of pasts from the first past to the second one, each one a near twin of the next."""
    check_past(family)
    check_is_past(family, start)
    check_is_past(family, goal)
    graph = family.graph
    mask = mask_of_row(family, start)
    wanted = mask_of_row(family, goal)
    rows = [list(start)]
    while mask != wanted:
        mask = taking(graph, mask, _next_tie(graph, mask, wanted))
        rows.append(row_of(family, mask))
    return rows


def _next_tie(graph, mask, wanted):
    """Return the mask of a tie that the wanted past has and that this past can take alone."""
    # What a side leads to and the past has not contains the tie of the side: the least of these is one tie.
    missing = [graph.led[place] & ~mask for place in places_in(wanted & ~mask)]
    counts = [len(places_in(sides)) for sides in missing]
    return missing[counts.index(min(counts))]
