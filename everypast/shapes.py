"""Shapes: small trees with positions, walls and sides (points 5 to 9)."""

from everypast.errors import BadPosition, BadShape, BadSide


def _side_masks(parents):
    """Return a number for each side: bit p of it is set if position p has the side."""
    count = len(parents) + 1
    branches = [1 << position for position in range(count)]
    # A child has a greater number than its parent: going down, each branch is complete when it is passed on.
    for wall in range(count - 1, 0, -1):
        parent = parents[wall - 1]
        branches[parent] = branches[parent] | branches[wall]
    masks = {}
    for wall in range(1, count):
        masks[wall] = branches[wall]
        masks[-wall] = branches[0] - branches[wall]
    return masks


class Shape:
    """A tree with the positions 0 to size; wall k is the edge between position k and its parent."""

    def __init__(self, parents):
        for place, parent in enumerate(parents):
            if not 0 <= parent <= place:
                raise BadShape(place)
        if len(parents) == 0:
            raise BadShape(0)
        self.parents = tuple(parents)
        self.size = len(self.parents)
        self._masks = _side_masks(self.parents)

    def positions_of(self, side):
        """Return the positions of the side, in ascending order."""
        check_side(self, side)
        return [position for position in range(self.size + 1) if self.has(position, side)]

    def has(self, position, side):
        """Return True if the position has the side, otherwise False."""
        check_position(self, position)
        check_side(self, side)
        return (self._masks[side] >> position) & 1 == 1

    def sides_at(self, position):
        """Return the sides that the position has, one for each wall."""
        check_position(self, position)
        return [wall if self.has(position, wall) else -wall for wall in range(1, self.size + 1)]

    def leads_inside(self, side, other):
        """Return True if every position of the first side has the second one, otherwise False."""
        check_side(self, side)
        check_side(self, other)
        return self._masks[side] & self._masks[other] == self._masks[side]

    def way(self, start, goal):
        """Return the positions on the path from the first position to the second one."""
        check_position(self, start)
        check_position(self, goal)
        climb = self._climb(start)
        descent = self._climb(goal)
        before = [position for position in climb if position not in descent]
        after = [position for position in descent if position not in climb]
        # Behind the positions of its own, each climb goes on with the position where both meet.
        return before + [climb[len(before)]] + after[::-1]

    def _climb(self, position):
        """Return the positions from this one to the root."""
        climb = [position]
        while climb[-1] > 0:
            climb.append(self.parents[climb[-1] - 1])
        return climb

    def parting(self, first, second):
        """Return the walls of which the two positions have different sides, in ascending order."""
        check_position(self, first)
        check_position(self, second)
        return [wall for wall in range(1, self.size + 1) if self.has(first, wall) != self.has(second, wall)]

    def distance(self, first, second):
        """Return the number of walls that part the two positions."""
        return len(self.parting(first, second))

    def is_line(self):
        """Return True if the shape is a line, otherwise False."""
        return self.parents == tuple(range(self.size))


def line(size):
    """Return the line of this size."""
    return Shape(list(range(size)))


def star(size):
    """Return the star of this size."""
    return Shape([0] * size)


def equal_shapes(shape, other):
    """Return True if the parents of both shapes are equal, otherwise False."""
    return shape.parents == other.parents


def check_position(shape, position):
    """Raise BadPosition if the number is not a position of the shape."""
    if not 0 <= position <= shape.size:
        raise BadPosition(position)


def check_side(shape, side):
    """Raise BadSide if the number is not a side of the shape."""
    if not is_number_of_side(shape, side):
        raise BadSide(side)


def is_number_of_side(shape, number):
    """Return True if the number is a side of the shape, otherwise False."""
    return number != 0 and -shape.size <= number <= shape.size


def ordered_sides(shape):
    """Return all sides of the shape in the order 1, -1, 2, -2, and so on."""
    return [side for wall in range(1, shape.size + 1) for side in (wall, -wall)]
