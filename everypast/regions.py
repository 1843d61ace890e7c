"""Common positions of sides, connected sets, spans and fences (points 9 and 11)."""

from everypast.errors import BadCount
from everypast.shapes import check_position, check_side, ordered_sides


def common(shape, sides):
    """Return all positions that have all the sides, or two of the sides that are apart."""
    for side in sides:
        check_side(shape, side)
    positions = _positions_with(shape, sides)
    if positions:
        return ("common", positions)
    first, second = _first_apart(shape, sides)
    return ("apart", first, second)


def _positions_with(shape, sides):
    """Return the positions that have all the sides, in ascending order."""
    return [
        position
        for position in range(shape.size + 1)
        if all(shape.has(position, side) for side in sides)
    ]


def _first_apart(shape, sides):
    """Return two of the sides that are apart, or None if no two of them are."""
    for place, second in enumerate(sides):
        for first in sides[:place]:
            if shape.leads_inside(first, -second):
                return (first, second)
    return None


def is_connected(shape, positions):
    """Return True if the set of the positions is connected, otherwise False."""
    return span(shape, positions) == sorted(set(positions))


def span(shape, positions):
    """Return the least connected set that contains the positions, in ascending order."""
    for position in positions:
        check_position(shape, position)
    # In a tree, the ways from one of the positions to the others cover all that lies between them.
    return sorted({between for position in positions for between in shape.way(positions[0], position)})


def fences(shape, positions):
    """Return the fences of the span of the positions, in the order of the sides."""
    for position in positions:
        check_position(shape, position)
    if len(positions) == 0:
        raise BadCount(0)
    # A side that two positions have is had by all positions between them: the span need not be computed.
    shared = [side for side in ordered_sides(shape) if all(shape.has(position, side) for position in positions)]
    return innermost(shape, shared)


def innermost(shape, sides):
    """Return those of the sides to which no other one of them leads inside."""
    return [
        side
        for side in sides
        if not any(other != side and shape.leads_inside(other, side) for other in sides)
    ]
