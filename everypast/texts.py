"""Texts: signs at places that clerks have copied, perhaps with slips (points 54 and 55)."""

from everypast.errors import BadName, NoReading, UnknownName, UnlikeShapes
from everypast.finds import allowed_by_all, check_closed, check_names, fits_everywhere, is_place_on
from everypast.names import valid_name
from everypast.rows import every_row
from everypast.shapes import check_side, equal_shapes
from everypast.sites import Site
from everypast.stocks import Stock

KINDS = (
    ("copy", "clerk", "cell", "sign", "count"),
    ("same", "cell", "cell"),
    ("among", "cell", "signs"),
)


class Text(Site):
    """A site whose cells are places; the position of a place is the sign that stood there."""

    def __init__(self, places, shape, clerks):
        check_names(places)
        for name in clerks:
            if not valid_name(name):
                raise BadName(name)
            if not equal_shapes(clerks[name].shape, shape):
                raise UnlikeShapes(name)
        super().__init__(Stock({place: shape for place in places}))
        self.places = tuple(places)
        self.shape = shape
        self.clerk_names = tuple(clerks)
        self._clerks = dict(clerks)

    def clerk_of(self, name):
        """Return the clerk with this name."""
        if name not in self._clerks:
            raise UnknownName(name)
        return self._clerks[name]

    def _made_anew(self):
        return Text(self.places, self.shape, self._clerks)

    def _kinds(self):
        return KINDS

    def _fits(self, find, kind, place):
        item = find[place]
        if kind[place] == "clerk":
            return isinstance(item, str) and item in self._clerks
        if kind[place] == "sign":
            return is_place_on(self._clerks[find[1]].other, item)
        if kind[place] == "signs":
            return isinstance(item, tuple) and all(is_place_on(self.shape, sign) for sign in item)
        return fits_everywhere(self.stock, find, kind, place)

    def _allowed(self, find, cells):
        if find[0] == "same":
            return [row for row in every_row(self.stock.part(cells)) if row[0] == row[1]]
        if find[0] == "copy":
            return [[sign] for sign in signs_allowed(self, find)]
        rows = [[sign] for sign in find[2]]
        check_closed(self.stock, cells, rows)
        return rows


def signs_allowed(text, find):
    """Return the signs that the "copy" find allows at its place, in ascending order."""
    clerk = text.clerk_of(find[1])
    shown = find[3]
    slips = find[4]
    return [sign for sign, image in enumerate(clerk.images) if clerk.other.distance(image, shown) <= slips]


def readings(text, place):
    """Return the readings of the place, or two "copy" finds for it that allow no common sign."""
    return allowed_by_all(text.shape, _allowed_by_copies(text, place))


def _allowed_by_copies(text, place):
    """Return, for the index of each "copy" find for the place, the signs that it allows, in ascending order."""
    text.stock.shape_of(place)
    return {at: signs_allowed(text, find) for at, find in enumerate(text) if find[0] == "copy" and find[2] == place}


def told_by(text, place, side):
    """Return the least index of a find for the place that alone tells the side, or None if not all readings have it."""
    allowed = _allowed_by_copies(text, place)
    check_side(text.shape, side)
    answer = readings(text, place)
    if answer[0] == "apart":
        raise NoReading(answer[1], answer[2])
    for at in allowed:
        if all(text.shape.has(sign, side) for sign in allowed[at]):
            return at
    return None
