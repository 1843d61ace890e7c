"""Tunnels: shapes whose walls have lengths (point 64)."""

from everypast.errors import BadLength, BadSide
from everypast.shapes import Shape


class Tunnels:
    """A shape with a length for each wall; wall k is the tunnel that leads to position k."""

    def __init__(self, parents, lengths):
        shape = Shape(parents)
        place = fault_in(lengths, least=1, count=shape.size)
        if place is not None:
            raise BadLength(place)
        self.shape = shape
        self.lengths = tuple(lengths)

    def opened(self, positions):
        """Return the tunnels that have to be dug to open the positions, in ascending order."""
        ways = [self.shape.way(0, position) for position in positions]
        return sorted({wall for way in ways for wall in way if wall > 0})

    def cost(self, positions, *, opened=()):
        """Return the length of the tunnels that have to be dug to open the positions, beside those in `opened`."""
        needed = self.opened(positions)
        there = self.opened(opened)
        return self.total(self.lengths, [wall for wall in needed if wall not in there])

    def between(self, first, second):
        """Return the length between the two positions."""
        return self.total(self.lengths, self.shape.parting(first, second))

    def is_closed(self, walls):
        """Return True if the set of the tunnels of the list is closed, otherwise False."""
        self._check_tunnels(walls)
        return all(self.parent(wall) == 0 or self.parent(wall) in walls for wall in walls)

    def total(self, values, walls):
        """Return the sum of the values of the tunnels of the list, each tunnel counted once."""
        self._check_tunnels(walls)
        return sum([values[wall - 1] for wall in sorted(set(walls))])

    def parent(self, wall):
        """Return the position from which the tunnel is dug; other than the root, it is also the tunnel before it."""
        return self.shape.parents[wall - 1]

    def branching(self, position):
        """Return the tunnels that are dug from the position, in ascending order."""
        return [wall for wall in range(1, self.shape.size + 1) if self.parent(wall) == position]

    def _check_tunnels(self, walls):
        """Raise BadSide for the first item that is not a tunnel."""
        for wall in walls:
            if not 1 <= wall <= self.shape.size:
                raise BadSide(wall)


def fault_in(numbers, *, least, count):
    """Return the index of the first number that is too small, or their number if it is wrong, or None."""
    for place, number in enumerate(numbers):
        if number < least:
            return place
    return None if len(numbers) == count else len(numbers)
