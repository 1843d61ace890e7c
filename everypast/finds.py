"""What all kinds of finds have in common: the checks of their items, and their bonds (points 39 to 41).

A kind is a tuple: its word, then the sort of each further item. These sorts mean the same for all kinds of sites:
"cell", "cells", "position" and "wall" (of the first cell that the find names), "number", "count" (a number that is not
negative) and "high" (a number that is not less than the item before it).
"""

from everypast.bonds import tight_bonds
from everypast.errors import BadFind, BadName, NotClosed
from everypast.names import valid_name
from everypast.tables import Table

MOST_CELLS = 3


def kind_of(find, kinds):
    """Return the kind of the find, or raise BadFind(0) if it is none of these kinds."""
    for kind in kinds:
        if len(find) == len(kind) and find[0] == kind[0]:
            return kind
    raise BadFind(0)


def cells_named(find, kind):
    """Return the cells that the items of the find name, in their order."""
    cells = []
    for place in range(1, len(find)):
        if kind[place] == "cell":
            cells.append(find[place])
        if kind[place] == "cells":
            cells.extend(list(find[place]))
    return cells


def fits_everywhere(stock, find, kind, place):
    """Return True if the item at this index, of a sort that all kinds of sites share, is valid, otherwise False."""
    item = find[place]
    if kind[place] == "cell":
        return is_cell(stock, item) and item not in cells_named(find[:place], kind)
    if kind[place] == "cells":
        return _are_cells(stock, item)
    if kind[place] in ("position", "wall"):
        least = 0 if kind[place] == "position" else 1
        return isinstance(item, int) and least <= item <= stock.shape_of(cells_named(find, kind)[0]).size
    if kind[place] == "count":
        return isinstance(item, int) and item >= 0
    if kind[place] == "high":
        return isinstance(item, int) and item >= find[place - 1]
    return isinstance(item, int)


def is_cell(stock, item):
    """Return True if the item is the name of a cell of the stock, otherwise False."""
    return isinstance(item, str) and item in stock


def _are_cells(stock, item):
    """Return True if the item is a tuple of one to three different names of cells, otherwise False."""
    if not isinstance(item, tuple) or not 1 <= len(item) <= MOST_CELLS:
        return False
    return all(is_cell(stock, name) for name in item) and len(set(item)) == len(item)


def is_place_on(shape, item):
    """Return True if the item is a position of the shape, otherwise False."""
    return isinstance(item, int) and 0 <= item <= shape.size


def check_closed(stock, cells, rows):
    """Raise NotClosed if the middle of three of the rows of positions for the cells is not among the rows."""
    fault = Table(stock.part(cells), rows).fault()
    if fault is not None:
        raise NotClosed(fault)


def bonds_over(stock, cells, rows):
    """Return the tight bonds, over these cells, of all rows of the stock with these positions for the cells."""
    # All positions of the other cells occur beside each of the rows, so they can be left out.
    ordered = [name for name in stock.names if name in cells]
    places = [cells.index(name) for name in ordered]
    return tight_bonds(stock.part(ordered), [[row[place] for place in places] for row in rows])


def check_names(names):
    """Raise BadName for the first name that is invalid or occurs earlier."""
    for place, name in enumerate(names):
        if not valid_name(name) or name in names[:place]:
            raise BadName(name)


def allowed_by_all(shape, allowed):
    """Return ("common", positions) or ("apart", first, second) for some finds that name one cell of this shape.

    `allowed` has the positions that the find at each index allows, a connected set or none.
    """
    positions = [position for position in range(shape.size + 1) if all(position in allowed[at] for at in allowed)]
    if positions:
        return ("common", positions)
    first, second = _apart(allowed)
    return ("apart", first, second)


def _apart(allowed):
    """Return the indexes of two finds that allow no common position, or twice the index of one that allows none."""
    for at in allowed:
        if not allowed[at]:
            return (at, at)
    for second in allowed:
        for first in allowed:
            if first < second and not any(position in allowed[first] for position in allowed[second]):
                return (first, second)
    return None
