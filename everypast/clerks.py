"""Clerks: maps from one shape to another one that keep middles (points 27 to 29)."""

from everypast.errors import BadImages, BadName, BadSide, NotKept, UnlikeShapes
from everypast.middles import middle
from everypast.shapes import check_position, equal_shapes, ordered_sides
from everypast.stocks import Stock
from everypast.tables import Table


def map_fault(shape, other, images):
    """Return three positions whose middle does not have the middle of the images as its image, or None."""
    _check_images(shape, other, images)
    # If two of three positions are equal, their middle is this one, before and after the map.
    for third in range(shape.size + 1):
        for second in range(third):
            for first in range(second):
                image = images[middle(shape, first, second, third)]
                if image != middle(other, images[first], images[second], images[third]):
                    return [first, second, third]
    return None


def _check_images(shape, other, images):
    """Raise BadImages if the list is not a list of images from the first shape to the other one."""
    for place, image in enumerate(images):
        if not 0 <= image <= other.size:
            raise BadImages(place)
    if len(images) != shape.size + 1:
        raise BadImages(len(images))


class Clerk:
    """A map from one shape to another one that keeps middles."""

    def __init__(self, shape, other, images):
        fault = map_fault(shape, other, images)
        if fault is not None:
            raise NotKept(fault)
        self.shape = shape
        self.other = other
        self.images = tuple(images)

    def __call__(self, position):
        check_position(self.shape, position)
        return self.images[position]

    def __mul__(self, other):
        if not equal_shapes(self.other, other.shape):
            raise UnlikeShapes("")
        return Clerk(self.shape, other.other, [other.images[image] for image in self.images])

    def pulled(self, wall):
        """Return the side to which the wall of the second shape is pulled back, or None for nothing."""
        if not 1 <= wall <= self.other.size:
            raise BadSide(wall)
        beyond = [position for position, image in enumerate(self.images) if self.other.has(image, wall)]
        for side in ordered_sides(self.shape):
            if self.shape.positions_of(side) == beyond:
                return side
        return None

    def walls_kept(self):
        """Return the walls of the first shape that the clerk keeps, in ascending order."""
        sides = [self.pulled(wall) for wall in range(1, self.other.size + 1)]
        return sorted({abs(side) for side in sides if side is not None})

    def table(self, name, image_name):
        """Return the table of the pairs of a position and its image, for two cells with these names."""
        # Under one name both cells would be one: of two equal names, the second one is wrong.
        if image_name == name:
            raise BadName(image_name)
        stock = Stock({name: self.shape, image_name: self.other})
        return Table(stock, list(enumerate(self.images)))


def identity(shape):
    """Return the clerk that assigns each position of the shape to itself."""
    return Clerk(shape, shape, list(range(shape.size + 1)))
