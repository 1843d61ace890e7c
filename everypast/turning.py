"""Turning cells upside down, and families that can be turned to have an earliest and a latest past (points 62, 63)."""

from everypast.errors import NotALine
from everypast.families import Family
from everypast.graphs import across, is_open, places_in, shortest_chain
from everypast.papers import is_chain
from everypast.raising import greatest_row, least_row
from everypast.rows import check_row
from everypast.solving import check_past
from everypast.stocks import opposite
from everypast.walks import odd_walk_along, oddness, tree_from


def turned_row(stock, names, row):
    """Return the row in which the cells with these names are turned."""
    _check_lines(stock, names)
    check_row(stock, row)
    return [
        stock.shape_of(name).size - position if name in names else position
        for name, position in zip(stock.names, row)
    ]


def turned_family(family, names):
    """Return the family in which the cells with these names are turned."""
    _check_lines(family.stock, names)
    bonds = [tuple([_turned_side(family.stock, names, side) for side in bond]) for bond in family]
    return Family(family.stock, bonds)


def _check_lines(stock, names):
    """Raise UnknownName or NotALine for the first name that is no cell or whose cell has no line."""
    for name in names:
        if not stock.shape_of(name).is_line():
            raise NotALine(name)


def _turned_side(stock, names, side):
    """Return the side that a row has after turning exactly if it had this side before."""
    cell, number = side
    if cell not in names:
        return side
    beyond = stock.shape_of(cell).size + 1
    return (cell, number - beyond if number > 0 else number + beyond)


def extremes(family):
    """Return the earliest and the latest past of a family of lines, each one None if there is none."""
    _check_lines_with_past(family)
    least = least_row(family)
    greatest = greatest_row(family)
    return (least if family.is_past(least) else None, greatest if family.is_past(greatest) else None)


def _check_lines_with_past(family):
    """Raise NotALine for the first cell that has no line, or NoPast."""
    _check_lines(family.stock, family.stock.names)
    check_past(family)


def turning(family):
    """Return cells that can be turned so that there are an earliest and a latest past, or an odd ring."""
    _check_lines_with_past(family)
    pairs = _pairs(family)
    edges = list(pairs)
    turned = {}
    for name in family.stock.names:
        if name not in turned:
            tree = tree_from(edges, name)
            walk = odd_walk_along(edges, tree)
            if walk is not None:
                return ("ring", _entries(family, [pairs[edge] for edge in edges], walk))
            turned.update(oddness(edges, tree))
    return ("turned", [name for name in family.stock.names if turned[name]])


def _pairs(family):
    """Return the edges of the cells, each one with a pair of open sides whose bond holds.

    The edge (cell, other, odd) says that exactly one of both cells must be turned if it is odd, for a falling pair,
    and otherwise, for a rising pair, that both or none must be turned.
    """
    graph = family.graph
    pairs = {}
    for place in [place for place in range(len(graph.listed)) if is_open(graph, place)]:
        side = graph.listed[place]
        for target in places_in(graph.led[across(place)]):
            other = graph.listed[target]
            # Each pair is met from both of its sides: the one that comes first in the order is enough.
            if place < target and other[0] != side[0] and is_open(graph, target):
                pairs[side[0], other[0], _are_alike(side, other)] = (side, other)
    return pairs


def _are_alike(side, other):
    """Return True if both sides are up sides or both are down sides, otherwise False."""
    return (side[1] > 0) == (other[1] > 0)


def _entries(family, pairs, walk):
    """Return the entries of an odd ring along the closed walk, where each edge has its pair of sides."""
    names, indexes = walk
    graph = family.graph
    entries = []
    for name, index in zip(names, indexes):
        side, other = pairs[index]
        if side[0] != name:
            side, other = other, side
        path = shortest_chain(graph, graph.places[opposite(side)], graph.places[other])
        entries.append((side, other, path))
    return entries


def is_odd_ring(family, entries):
    """Return True if the list of tuples (s, t, path) is an odd ring of the family, otherwise False."""
    _check_lines_with_past(family)
    if len(entries) < 2 or not all(_is_entry(family, entry) for entry in entries):
        return False
    following = [*entries[1:], entries[0]]
    if any(entry[1][0] != after[0][0] for entry, after in zip(entries, following)):
        return False
    alike = [True for side, other, _ in entries if _are_alike(side, other)]
    return len(alike) % 2 == 1


def _is_entry(family, entry):
    """Return True if two open sides of different cells stand in the entry, with a chain that shows their bond."""
    side, other, path = entry
    graph = family.graph
    if side[0] == other[0] or not all(is_open(graph, graph.places[one]) for one in (side, other)):
        return False
    return is_chain(family, path, start=opposite(side), goal=other)
