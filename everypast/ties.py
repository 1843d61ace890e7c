"""Ties: sides that the same pasts have (point 30)."""

from everypast.claims import place_of_open
from everypast.graphs import is_in, is_open, leads, mask_of, opposites, places_in
from everypast.listing import check_is_past
from everypast.solving import check_past, mask_of_row


def ties(family):
    """Return the listed ties, in the order of their first sides."""
    check_past(family)
    return [_sides_in(family, mask) for mask in tie_masks(family.graph)]


def tie_of(family, side):
    """Return the tie of the open side, with the side itself, in the order of the sides."""
    place = place_of_open(family, side)
    return _sides_in(family, tie_mask(family.graph, place))


def parting_ties(family, row, other):
    """Return the listed ties that part the two pasts, in their order."""
    check_past(family)
    check_is_past(family, row)
    check_is_past(family, other)
    differing = mask_of_row(family, row) ^ mask_of_row(family, other)
    return [_sides_in(family, mask) for mask in tie_masks(family.graph) if mask & differing != 0]


def tie_mask(graph, place):
    """Return the mask of the tie of the open side at this place."""
    return mask_of([other for other in places_in(graph.led[place]) if leads(graph, other, place)])


def tie_masks(graph):
    """Return the masks of the listed ties, in their order, where there is a past."""
    masks = []
    seen = 0
    # Of two opposite ties, the first side of all is the first side of its wall.
    for place in range(0, len(graph.listed), 2):
        if is_open(graph, place) and not is_in(place, seen):
            mask = tie_mask(graph, place)
            masks.append(mask)
            seen = seen | mask | opposites(graph, mask)
    return masks


def _sides_in(family, mask):
    """Return the sides of the mask, in their order."""
    return [family.graph.listed[place] for place in places_in(mask)]
