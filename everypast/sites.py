"""Sites: stocks with finds; the plain site, on which the other kinds of sites are built (points 39 to 42)."""

from everypast.bonds import keeps_all
from everypast.errors import BadFind, BadIndex
from everypast.families import Family
from everypast.finds import bonds_over, cells_named, check_closed, fits_everywhere, is_place_on, kind_of
from everypast.rows import check_row
from everypast.stocks import is_side

KINDS = (("rows", "cells", "rows"), ("bond", "side"), ("bond", "side", "side"))


class Site:
    """A stock with a list of finds.

    Another kind of site has its own `_made_anew`, `_kinds`, `_fits`, `_allowed` and perhaps `_cells_of`.
    """

    def __init__(self, stock):
        self.stock = stock
        self._finds = []
        self._bonds = []

    def __len__(self):
        return len(self._finds)

    def __iter__(self):
        return iter(self._finds)

    def take(self, find):
        """Take the find and return its index."""
        self.take_all([find])
        return len(self._finds) - 1

    def take_all(self, finds):
        """Take the finds of the list in order, all or none, and return their number."""
        bonds = [tuple(self._checked_bonds(find)) for find in finds]
        self._finds.extend([tuple(find) for find in finds])
        self._bonds.extend(bonds)
        return len(bonds)

    def drop(self, place):
        """Drop the find at this index and return it."""
        self._check_index(place)
        self._bonds.pop(place)
        return self._finds.pop(place)

    def twin(self):
        """Return a new site of the same class with the same finds."""
        other = self._made_anew()
        other._finds = list(self._finds)
        other._bonds = list(self._bonds)
        return other

    def bonds_of(self, place):
        """Return the bonds of the find at this index."""
        self._check_index(place)
        return list(self._bonds[place])

    def family(self):
        """Return the family of the site."""
        return Family(self.stock, [bond for bonds in self._bonds for bond in bonds])

    def sources(self):
        """Return, for each bond of the family, the index of the find to which it belongs."""
        return [place for place, bonds in enumerate(self._bonds) for _ in bonds]

    def allows(self, row):
        """Return True if all finds allow the row, otherwise False."""
        check_row(self.stock, row)
        return all(keeps_all(self.stock, row, bonds) for bonds in self._bonds)

    def _check_index(self, place):
        """Raise BadIndex if there is no find at this index."""
        if not 0 <= place < len(self._finds):
            raise BadIndex(place)

    def _checked_bonds(self, find):
        """Return the bonds of the find, or raise the error for which it is refused."""
        kind = kind_of(find, self._kinds())
        for place in range(1, len(find)):
            if not self._fits(find, kind, place):
                raise BadFind(place)
        if find[0] == "bond":
            return [find[1:]]
        cells = self._cells_of(find, kind)
        return bonds_over(self.stock, cells, self._allowed(find, cells))

    def _made_anew(self):
        """Return a new site of the same class with the finds with which such a site is created."""
        return Site(self.stock)

    def _cells_of(self, find, kind):
        """Return the cells that the find names."""
        return cells_named(find, kind)

    def _kinds(self):
        """Return the kinds of finds that the site takes."""
        return KINDS

    def _fits(self, find, kind, place):
        """Return True if the item at this index of the find is valid, otherwise False; all items before it are."""
        if kind[place] == "rows":
            return _are_rows(self.stock, find[1], find[place])
        if kind[place] == "side":
            return is_side(self.stock, find[place])
        return fits_everywhere(self.stock, find, kind, place)

    def _allowed(self, find, cells):
        """Return the rows of positions for the cells that the find allows."""
        check_closed(self.stock, cells, find[2])
        return find[2]


def _are_rows(stock, cells, item):
    """Return True if the item is a tuple of rows of positions for the cells, otherwise False."""
    return isinstance(item, tuple) and all(_is_row_for(stock, cells, row) for row in item)


def _is_row_for(stock, cells, item):
    """Return True if the item is a tuple with one position for each of the cells, otherwise False."""
    if not isinstance(item, tuple) or len(item) != len(cells):
        return False
    return all(is_place_on(stock.shape_of(cell), position) for cell, position in zip(cells, item))
