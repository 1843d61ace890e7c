"""Stocks: lists of cells with shapes, and their sides and walls (points 12 and 13)."""

from everypast.errors import BadName, BadSide, UnknownName
from everypast.names import valid_name
from everypast.shapes import equal_shapes, is_number_of_side, ordered_sides


class Stock:
    """A list of cells with different names, in a fixed order, each with a shape."""

    def __init__(self, cells):
        for name in cells:
            if not valid_name(name):
                raise BadName(name)
        self.names = tuple(cells)
        self._shapes = dict(cells)

    def __len__(self):
        return len(self.names)

    def __iter__(self):
        return iter(self.names)

    def __contains__(self, name):
        return name in self._shapes

    def shape_of(self, name):
        """Return the shape of the cell."""
        if name not in self._shapes:
            raise UnknownName(name)
        return self._shapes[name]

    def sides(self):
        """Return all sides of the stock, in their order."""
        return [(name, number) for name in self.names for number in ordered_sides(self._shapes[name])]

    def walls(self):
        """Return all walls of the stock, in their order."""
        return [side for side in self.sides() if side[1] > 0]

    def part(self, names):
        """Return the stock of the cells with these names, in the order of the list."""
        cells = {}
        for name in names:
            shape = self.shape_of(name)
            if name in cells:
                raise BadName(name)
            cells[name] = shape
        return Stock(cells)


def opposite(side):
    """Return the opposite of a side of a stock."""
    cell, number = side
    return (cell, -number)


def is_side(stock, side):
    """Return True if the value is a side of the stock, otherwise False."""
    if not isinstance(side, tuple) or len(side) != 2:
        return False
    cell, number = side
    if not isinstance(cell, str) or not isinstance(number, int):
        return False
    return cell in stock and is_number_of_side(stock.shape_of(cell), number)


def is_wall(stock, wall):
    """Return True if the value is a wall of the stock, otherwise False."""
    return is_side(stock, wall) and wall[1] > 0


def check_stock_side(stock, side):
    """Raise BadSide if the value is not a side of the stock."""
    if not is_side(stock, side):
        raise BadSide(side)


def is_inside(stock, side, other):
    """Return True if both sides belong to one cell and the first one leads inside to the second one."""
    return side[0] == other[0] and stock.shape_of(side[0]).leads_inside(side[1], other[1])


def sides_around(stock, side):
    """Return the other sides to which the side leads inside, in their order."""
    cell, number = side
    shape = stock.shape_of(cell)
    return [(cell, other) for other in ordered_sides(shape) if other != number and shape.leads_inside(number, other)]


def sides_within(stock, side):
    """Return the other sides that lead inside to the side, in their order."""
    cell, number = side
    shape = stock.shape_of(cell)
    return [(cell, other) for other in ordered_sides(shape) if other != number and shape.leads_inside(other, number)]


def equal_stocks(stock, other):
    """Return True if both stocks have the same names with equal shapes in the same order, otherwise False."""
    if stock.names != other.names:
        return False
    return all(equal_shapes(stock.shape_of(name), other.shape_of(name)) for name in stock.names)
