"""Sites of layers: deeds that were done in earlier or later layers (point 43)."""

from everypast.finds import check_names, fits_everywhere
from everypast.rows import every_row
from everypast.shapes import line
from everypast.sites import Site
from everypast.stocks import Stock

KINDS = (
    ("after", "cell", "cell", "number"),
    ("level", "cell", "cell"),
    ("from", "cell", "position"),
    ("by", "cell", "position"),
    ("not", "cell", "position"),
    ("rise", "cell", "cell", "floors"),
    ("hidden", "cell", "cell"),
)


class Layers(Site):
    """A site whose cells are deeds; the position of a deed is its layer, from 0 to `last`."""

    def __init__(self, deeds, last):
        check_names(deeds)
        shape = line(last)
        super().__init__(Stock({deed: shape for deed in deeds}))
        self.deeds = tuple(deeds)
        self.last = last

    def _made_anew(self):
        return Layers(self.deeds, self.last)

    def _kinds(self):
        return KINDS

    def _fits(self, find, kind, place):
        if kind[place] == "floors":
            return _are_floors(self.last, find[place])
        return fits_everywhere(self.stock, find, kind, place)

    def _allowed(self, find, cells):
        return [row for row in every_row(self.stock.part(cells)) if _admits(find, row)]


def _are_floors(last, item):
    """Return True if the item is a tuple with a floor for each layer that never falls, otherwise False."""
    if not isinstance(item, tuple) or len(item) != last + 1:
        return False
    if not all(isinstance(floor, int) and 0 <= floor <= last + 1 for floor in item):
        return False
    return list(item) == sorted(item)


def _admits(find, row):
    """Return True if the find allows the row of layers for its deeds, otherwise False."""
    word = find[0]
    if word == "after":
        return row[0] >= row[1] + find[3]
    if word == "level":
        return row[0] == row[1]
    if word == "from":
        return row[0] >= find[2]
    if word == "by":
        return row[0] <= find[2]
    if word == "not":
        return row[0] != find[2]
    if word == "rise":
        return row[0] >= find[3][row[1]]
    return True
