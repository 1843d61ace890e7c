"""Examining chains and rings that somebody shows (points 17 to 19)."""

from everypast.graphs import INSIDE
from everypast.stocks import is_inside, is_side, opposite


def is_chain(family, path, *, start=None, goal=None):
    """Return True if the path is a chain of the family, from `start` and to `goal` if these are given."""
    sides, sources = path
    # This also rules out a path without sides.
    if len(sources) != len(sides) - 1:
        return False
    if start is not None and sides[0] != start:
        return False
    if goal is not None and sides[-1] != goal:
        return False
    if not all(is_side(family.stock, side) for side in sides) or len(set(sides)) != len(sides):
        return False
    return all(_is_step(family, sides[at], sides[at + 1], source) for at, source in enumerate(sources))


def _is_step(family, side, target, source):
    """Return True if there is a step with this source from the side to another one, otherwise False."""
    if source == INSIDE:
        return is_inside(family.stock, side, target)
    if not 0 <= source < len(family.bonds):
        return False
    # A bond with one side says the same as a bond with this side twice.
    first = family.bonds[source][0]
    last = family.bonds[source][-1]
    return (opposite(side), target) in ((first, last), (last, first))


def is_ring(family, there, back):
    """Return True if the two paths are a ring of the family, otherwise False."""
    if not is_chain(family, there):
        return False
    start = there[0][0]
    goal = opposite(start)
    return is_chain(family, there, start=start, goal=goal) and is_chain(family, back, start=goal, goal=start)
