"""Routes: clerks who copy signs one after the other (points 50 and 51)."""

from everypast.clerks import identity
from everypast.errors import BadLeg, BadSide
from everypast.shapes import check_position, equal_shapes


class Route:
    """A first shape and a list of clerks, each of which reads the signs that the one before it writes."""

    def __init__(self, shape, *clerks):
        before = shape
        for place, clerk in enumerate(clerks):
            if not equal_shapes(clerk.shape, before):
                raise BadLeg(place)
            before = clerk.other
        self.shape = shape
        self.clerks = tuple(clerks)

    def __len__(self):
        return len(self.clerks)

    def __iter__(self):
        return iter(self.clerks)

    def then(self, clerk):
        """Return a new route with this clerk at the end."""
        clerks = [*self.clerks, clerk]
        return Route(self.shape, *clerks)

    def composed(self):
        """Return the clerk composed of all clerks of the route."""
        return self._stages()[-1]

    def _stages(self):
        """Return the clerks composed of the first 0, 1, .. clerks of the route."""
        stages = [identity(self.shape)]
        for clerk in self.clerks:
            stages.append(stages[-1] * clerk)
        return stages

    def copied(self, sign):
        """Return the sign after 0, 1, .. clerks."""
        check_position(self.shape, sign)
        return [stage(sign) for stage in self._stages()]

    def walls_kept(self):
        """Return the walls of the first shape that the route keeps, in ascending order."""
        return self.composed().walls_kept()

    def loss(self, wall):
        """Return the least number of clerks after which the wall is not kept, or None if the route keeps it."""
        if not 1 <= wall <= self.shape.size:
            raise BadSide(wall)
        for count, stage in enumerate(self._stages()):
            if wall not in stage.walls_kept():
                return count
        return None

    def alike(self, first, second):
        """Return the number of clerks after which the two signs become alike, or None if they never do."""
        pairs = list(zip(self.copied(first), self.copied(second)))
        for count, (sign, other) in enumerate(pairs):
            if sign == other:
                return count
        return None
