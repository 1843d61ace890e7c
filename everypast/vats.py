"""Vats that grow weaker dip by dip, and sites of cloths that were dipped in them (points 59 and 60)."""

from everypast.errors import BadCount, BadSteps
from everypast.finds import check_names
from everypast.rows import every_row
from everypast.shapes import line
from everypast.sites import Site
from everypast.stocks import Stock

KINDS = (("dips", "cell", "number", "high"), ("shade", "cell", "number", "high"))


class Vat:
    """A vat, with the strength that each of its dips gives."""

    def __init__(self, steps):
        for place, step in enumerate(steps):
            if step < 0 or (place > 0 and step > steps[place - 1]):
                raise BadSteps(place)
        if len(steps) == 0:
            raise BadSteps(0)
        self.steps = tuple(steps)
        self.size = len(self.steps)

    def strength(self, dips):
        """Return the strength of this number of dips."""
        if not 0 <= dips <= self.size:
            raise BadCount(dips)
        return sum(self.steps[:dips])


class Cuts(Site):
    """A site whose cells are cloths; the cut of a cloth is the number of dips given when the cloth was done."""

    def __init__(self, vat, cloths):
        check_names(cloths)
        shape = line(vat.size)
        super().__init__(Stock({cloth: shape for cloth in cloths}))
        self.vat = vat
        self.cloths = tuple(cloths)
        self.take_all([("dips", cloth, 0, vat.size) for cloth in self.cloths])

    def _made_anew(self):
        return Cuts(self.vat, self.cloths)

    def _kinds(self):
        return KINDS

    def _cells_of(self, find, kind):
        return cells_of_cloth(self, find[1])

    def _allowed(self, find, cells):
        rows = every_row(self.stock.part(cells))
        return [row for row in rows if find[2] <= measured(self.vat, find[0], row) <= find[3]]


def cells_of_cloth(cuts, cloth):
    """Return the cloth, and the cloth before it first if there is one: the finds of the cloth name these cells."""
    place = cuts.cloths.index(cloth)
    return list(cuts.cloths[max(place - 1, 0):place + 1])


def measured(vat, word, row):
    """Return the dips of a cloth, or its shade for the word "shade"; the row is its cut, behind the cut before it."""
    # Before the first cloth the vat had given no dip.
    before = row[0] if len(row) > 1 else 0
    if word == "dips":
        return row[-1] - before
    return vat.strength(row[-1]) - vat.strength(before)
