"""Middles of positions (point 10)."""

from everypast.errors import EvenCount
from everypast.shapes import check_position


def middle(shape, first, second, third):
    """Return the middle of the three positions."""
    return odd_middle(shape, [first, second, third])


def odd_middle(shape, positions):
    """Return the middle of an odd number of positions."""
    for position in positions:
        check_position(shape, position)
    if len(positions) % 2 == 0:
        raise EvenCount(len(positions))
    # The branches that hold more than half of the positions lie one inside the other,
    # and the innermost one has the greatest number: its topmost position is the middle.
    for wall in range(shape.size, 0, -1):
        inside = [position for position in positions if shape.has(position, wall)]
        if 2 * len(inside) > len(positions):
            return wall
    return 0


def total_distance(shape, positions, position):
    """Return the sum of the distances of the position to the positions of the list."""
    for other in positions:
        check_position(shape, other)
    check_position(shape, position)
    return sum(shape.distance(other, position) for other in positions)
