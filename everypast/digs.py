"""Sites of digs: things that lie somewhere in tunnels (points 68 and 69)."""

from everypast.finds import allowed_by_all, check_names
from everypast.rows import every_row
from everypast.sites import Site
from everypast.stocks import Stock

KINDS = (
    ("beyond", "cell", "wall"),
    ("outside", "cell", "wall"),
    ("same", "cell", "cell", "wall"),
    ("with", "cell", "cell"),
    ("within", "cell", "position", "count"),
)


class Digs(Site):
    """A site whose cells are things; the position of a thing is its place in the tunnels."""

    def __init__(self, things, tunnels):
        check_names(things)
        super().__init__(Stock({thing: tunnels.shape for thing in things}))
        self.things = tuple(things)
        self.tunnels = tunnels

    def _made_anew(self):
        return Digs(self.things, self.tunnels)

    def _kinds(self):
        return KINDS

    def _allowed(self, find, cells):
        rows = every_row(self.stock.part(cells))
        if find[0] == "same":
            return [row for row in rows if self._is_in(row[0], find[3]) == self._is_in(row[1], find[3])]
        if find[0] == "with":
            return [row for row in rows if row[0] == row[1]]
        return [[place] for place in places_allowed(self.tunnels, find)]

    def _is_in(self, place, wall):
        """Return True if the place is in the branch of the wall, otherwise False."""
        return self.tunnels.shape.has(place, wall)


def places_allowed(tunnels, find):
    """Return the places that a "beyond", "outside" or "within" find allows for its thing, in ascending order."""
    if find[0] == "beyond":
        return tunnels.shape.positions_of(find[2])
    if find[0] == "outside":
        return tunnels.shape.positions_of(-find[2])
    return [place for place in range(tunnels.shape.size + 1) if tunnels.between(place, find[2]) <= find[3]]


def places(digs, thing):
    """Return the places that all finds for the thing alone allow, or two such finds that allow no common place."""
    digs.stock.shape_of(thing)
    allowed = {
        at: places_allowed(digs.tunnels, find)
        for at, find in enumerate(digs)
        if find[0] in ("beyond", "outside", "within") and find[1] == thing
    }
    word, *told = allowed_by_all(digs.tunnels.shape, allowed)
    return ("places", *told) if word == "common" else (word, *told)
