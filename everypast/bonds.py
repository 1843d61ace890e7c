"""Bonds: one or two sides of which a row must have at least one (points 15 and 16)."""

from everypast.errors import BadBond
from everypast.rows import check_row, has_side, sides_of
from everypast.stocks import is_inside, is_side, opposite, sides_within


def is_bond(stock, bond):
    """Return True if the tuple is a bond of the stock, otherwise False."""
    return 1 <= len(bond) <= 2 and all(is_side(stock, side) for side in bond)


def check_bond(stock, bond):
    """Raise BadBond(0) if the tuple, passed alone, is not a bond of the stock."""
    if not is_bond(stock, bond):
        raise BadBond(0)


def keeps_bond(stock, row, bond):
    """Return True if the row has at least one side of the bond, otherwise False."""
    check_row(stock, row)
    check_bond(stock, bond)
    return any(has_side(stock, row, side) for side in bond)


def keeps_all(stock, row, bonds):
    """Return True if the row keeps all the bonds, otherwise False; the row and the bonds are those of the stock."""
    had = {side: True for side in sides_of(stock, row)}
    return all(bond[0] in had or bond[-1] in had for bond in bonds)


def is_idle(stock, bond):
    """Return True if every row of the stock keeps the bond, otherwise False."""
    check_bond(stock, bond)
    # A bond with one side says the same as a bond with this side twice.
    return _always_kept(stock, bond[0], bond[-1])


def _always_kept(stock, first, second):
    """Return True if every row of the stock has one of the two sides, otherwise False."""
    return is_inside(stock, opposite(first), second)


def tight_bonds(stock, rows, *, cells=None):
    """Return the tight bonds of the set of the rows, over these cells or over all cells."""
    for row in rows:
        check_row(stock, row)
    sides = _sides_of_cells(stock, cells)
    lacks = _lacks(stock, rows)
    return tight_among(stock, sides, lambda first, second: lacks[first] & lacks[second] == 0)


def tight_among(stock, sides, holds):
    """Return the tight bonds over the cells of these sides, all sides of some cells in their order.

    `holds` is a function that tells whether the bond of two sides holds; with the same side twice, whether it is firm.
    """
    firm = [side for side in sides if holds(side, side)]
    loose = [side for side in sides if not holds(side, side)]
    return _tight_singles(stock, firm) + _tight_pairs(stock, loose, holds)


def _sides_of_cells(stock, cells):
    """Return the sides of the cells with these names, or of all cells, in their order."""
    if cells is None:
        return stock.sides()
    for name in cells:
        stock.shape_of(name)
    return [side for side in stock.sides() if side[0] in cells]


def _lacks(stock, rows):
    """Return a number for each side: bit i of it is set if the row at index i does not have the side."""
    lacks = {side: 0 for side in stock.sides()}
    for at, row in enumerate(rows):
        for side in sides_of(stock, row):
            lacks[opposite(side)] = lacks[opposite(side)] | (1 << at)
    return lacks


def _tight_singles(stock, firm):
    """Return the bonds of the firm sides to which no other firm side leads inside."""
    return [
        (side,)
        for side in firm
        if not any(other != side and is_inside(stock, other, side) for other in firm)
    ]


def _tight_pairs(stock, loose, holds):
    """Return the tight bonds of two sides, both of them not firm."""
    narrower = {side: sides_within(stock, side) for side in loose}
    return [
        (first, second)
        for at, first in enumerate(loose)
        for second in loose[at + 1:]
        if holds(first, second)
        and not _always_kept(stock, first, second)
        and not any(holds(side, second) for side in narrower[first])
        and not any(holds(first, side) for side in narrower[second])
    ]
