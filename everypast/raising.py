"""The earliest, the latest and the least pasts of a site of layers (points 44 to 47)."""

from everypast.graphs import across, certain_places, is_certain, is_open, opposites, shortest_chain
from everypast.shapes import check_position
from everypast.solving import check_past, row_of


def earliest(layers):
    """Return the earliest past."""
    return least_row(_family_with_past(layers))


def latest(layers):
    """Return the latest past."""
    return greatest_row(_family_with_past(layers))


def least_row(family):
    """Return the row of the least possible positions of a family of lines that has a past."""
    # Of the up sides of a cell, the last one that is certain tells its least position.
    return row_of(family, certain_places(family.graph))


def greatest_row(family):
    """Return the row of the greatest possible positions of a family of lines that has a past."""
    # Of the up sides of a cell, the last one that is not impossible tells its greatest position.
    graph = family.graph
    return row_of(family, graph.firsts & ~opposites(graph, certain_places(graph)))


def _family_with_past(layers):
    """Return the family of the site, or raise NoPast."""
    family = layers.family()
    check_past(family)
    return family


def least_with(layers, deed, layer):
    """Return the least past in which the layer of the deed is at least `layer`, or None if there is none."""
    check_position(layers.stock.shape_of(deed), layer)
    family = _family_with_past(layers)
    graph = family.graph
    if layer == 0:
        return least_row(family)
    place = graph.places[deed, layer]
    return None if is_certain(graph, across(place)) else _least_past(family, place)


def _least_past(family, place):
    """Return the least past that has the up side at this place, which is not impossible."""
    # An up side is in it exactly if every past with the side has it: if it is certain, or if the side leads to it.
    return row_of(family, certain_places(family.graph) | family.graph.led[place])


def generators(layers):
    """Return the least pasts of the open up sides, each one once, in ascending order."""
    family = _family_with_past(layers)
    graph = family.graph
    ups = [place for place in range(0, len(graph.listed), 2) if is_open(graph, place)]
    return [list(row) for row in sorted({tuple(_least_past(family, place)) for place in ups})]


def conflict_chain(layers):
    """Return a conflict chain of the family of the site, or None if the site has a past."""
    family = layers.family()
    graph = family.graph
    ups = list(range(0, len(graph.listed), 2))
    starts = [place for place in ups if (graph.listed[place],) in family.bonds]
    goals = [place for place in ups if (graph.listed[across(place)],) in family.bonds]
    best = None
    for start in starts:
        for goal in goals:
            path = shortest_chain(graph, start, goal)
            # A step from an up side to a down side begins at a goal: a shortest chain of all has none.
            if path is not None and (best is None or len(path[0]) < len(best[0])):
                best = path
    return best
