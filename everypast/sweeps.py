"""Possible cuts, dips and shades of cloths (point 61)."""

from everypast.possible import possible_positions, possible_rows
from everypast.raising import earliest, latest
from everypast.solving import has_past
from everypast.vats import cells_of_cloth, measured


def possible_cuts(cuts, cloth):
    """Return the possible positions of the cell of the cloth, in ascending order; none if there is no past."""
    cuts.stock.shape_of(cloth)
    family = cuts.family()
    return possible_positions(family, cloth) if has_past(family) else []


def earliest_cuts(cuts):
    """Return the earliest past."""
    return earliest(cuts)


def latest_cuts(cuts):
    """Return the latest past."""
    return latest(cuts)


def possible_dips(cuts, cloth):
    """Return the numbers that the dips of the cloth have in pasts, in ascending order; none if there is no past."""
    return _possible(cuts, "dips", cloth)


def possible_shades(cuts, cloth):
    """Return the numbers that the shade of the cloth has in pasts, in ascending order; none if there is no past."""
    return _possible(cuts, "shade", cloth)


def _possible(cuts, word, cloth):
    """Return the dips or the shades of the cloth in all pasts, in ascending order without duplicates."""
    cuts.stock.shape_of(cloth)
    family = cuts.family()
    if not has_past(family):
        return []
    return sorted({measured(cuts.vat, word, row) for row in possible_rows(family, cells_of_cloth(cuts, cloth))})
