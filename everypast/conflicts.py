"""Conflicts of a family without a past (point 25)."""

from everypast.graphs import INSIDE, across, led_with, place_of_ring, shortest_chain


def conflict(family):
    """Return the indexes of a conflict, in ascending order, or None if the family has a past."""
    kept = bonds_of_ring(family)
    if kept is None:
        return None
    # The bonds of a ring leave no past; what can be left out of them one by one is no part of the conflict.
    for source in list(kept):
        fewer = [other for other in kept if other != source]
        if not leave_past(family.graph, fewer):
            kept = fewer
    return kept


def unavoidable(family):
    """Return the indexes of all unavoidable bonds, in ascending order, or None if the family has a past."""
    found = conflict(family)
    if found is None:
        return None
    # An unavoidable bond is in every conflict, so also in this one.
    indexes = list(range(len(family.bonds)))
    return [place for place in found if leave_past(family.graph, indexes[:place] + indexes[place + 1:])]


def bonds_of_ring(family):
    """Return the indexes of the bonds of a ring, in ascending order, or None if the family has a past."""
    graph = family.graph
    place = place_of_ring(graph.led)
    if place is None:
        return None
    _, there = shortest_chain(graph, place, across(place))
    _, back = shortest_chain(graph, across(place), place)
    return sorted({source for source in there + back if source != INSIDE})


def leave_past(graph, sources):
    """Return True if some row keeps all bonds at these indexes, otherwise False."""
    return place_of_ring(led_with(graph, sources)) is None
