"""Families: stocks with bonds, and their pasts (point 15)."""

from everypast.bonds import is_bond, keeps_all
from everypast.errors import BadBond, BadIndex
from everypast.graphs import Graph
from everypast.rows import is_row


class Family:
    """A stock with a list of bonds; `graph` holds the steps between its sides."""

    def __init__(self, stock, bonds):
        _check_bonds(stock, bonds)
        self.stock = stock
        self.bonds = tuple([tuple(bond) for bond in bonds])
        self.graph = Graph(stock, self.bonds)

    def __len__(self):
        return len(self.bonds)

    def __iter__(self):
        return iter(self.bonds)

    def is_past(self, row):
        """Return True if the list is a row of the stock and keeps all bonds, otherwise False."""
        return is_row(self.stock, row) and keeps_all(self.stock, row, self.bonds)

    def extended(self, bonds):
        """Return the family with the bonds of this one, followed by these bonds."""
        _check_bonds(self.stock, bonds)
        return Family(self.stock, [*self.bonds, *bonds])

    def without(self, place):
        """Return the family without the bond at this index."""
        if not 0 <= place < len(self.bonds):
            raise BadIndex(place)
        return Family(self.stock, self.bonds[:place] + self.bonds[place + 1:])


def _check_bonds(stock, bonds):
    """Raise BadBond for the first item that is not a bond of the stock."""
    for place, bond in enumerate(bonds):
        if not is_bond(stock, bond):
            raise BadBond(place)
