"""Tables: sets of rows of a stock of few cells, and their hulls (point 26)."""

from everypast.bonds import tight_bonds
from everypast.errors import UnlikeStocks
from everypast.middles import middle
from everypast.rows import check_row
from everypast.stocks import equal_stocks


class Table:
    """A stock with a set of its rows."""

    def __init__(self, stock, rows):
        for row in rows:
            check_row(stock, row)
        self.stock = stock
        self.rows = tuple(sorted({tuple(row) for row in rows}))
        self._known = {row: True for row in self.rows}

    def __len__(self):
        return len(self.rows)

    def __iter__(self):
        return iter(self.rows)

    def __contains__(self, row):
        return tuple(row) in self._known

    def __and__(self, other):
        if not equal_stocks(self.stock, other.stock):
            raise UnlikeStocks()
        return Table(self.stock, [row for row in self.rows if row in other])

    def fault(self):
        """Return three rows whose middle is not in the table, or None if the table is closed."""
        # A table is closed exactly if its hull has no other rows: this spares a closed table the search below.
        if len(self.hull().rows) == len(self.rows):
            return None
        middles = [_middles_of(self.stock.shape_of(name)) for name in self.stock.names]
        for at, first in enumerate(self.rows):
            for below, second in enumerate(self.rows[:at]):
                for third in self.rows[:below]:
                    if _middle_row(middles, first, second, third) not in self._known:
                        return [list(first), list(second), list(third)]
        return None

    def tight(self):
        """Return the tight bonds of the rows over all cells."""
        return tight_bonds(self.stock, self.rows)

    def hull(self):
        """Return the table of all rows that keep the tight bonds of this table."""
        if len(self.rows) == 0:
            return Table(self.stock, [])
        return Table(self.stock, _rows_keeping(self.stock, self.tight()))

    def onto(self, names):
        """Return the table of the rows of positions that the rows have for the cells with these names."""
        part = self.stock.part(names)
        places = [self.stock.names.index(name) for name in part.names]
        return Table(part, [[row[place] for place in places] for row in self.rows])


def _middles_of(shape):
    """Return the middle of each three positions of the shape."""
    positions = list(range(shape.size + 1))
    return {(a, b, c): middle(shape, a, b, c) for a in positions for b in positions for c in positions}


def _middle_row(middles, first, second, third):
    """Return the middle of the rows, a tuple, where `middles` has the middles of positions for each cell."""
    return tuple([found[a, b, c] for found, a, b, c in zip(middles, first, second, third)])


def _rows_keeping(stock, bonds):
    """Return the rows of the stock that keep the bonds, whose sides stand in the order of the sides."""
    rows = [[]]
    for name in stock.names:
        # The last side of a bond has the latest cell: a bond can be tested once this cell has its position.
        tested = [_places_allowed(stock, bond) for bond in bonds if bond[-1][0] == name]
        longer = [[*row, position] for row in rows for position in range(stock.shape_of(name).size + 1)]
        rows = [row for row in longer if _keeps_all(row, tested)]
    return rows


def _places_allowed(stock, bond):
    """Return, for each side of the bond, the place of its cell in a row and the positions of the side there."""
    return [(stock.names.index(cell), stock.shape_of(cell).positions_of(number)) for cell, number in bond]


def _keeps_all(row, tested):
    """Return True if, for each tested bond, the row has an allowed position at one of its places."""
    for bond in tested:
        if not any(row[place] in allowed for place, allowed in bond):
            return False
    return True
