"""Desks: houses that are worked on, with a picture of the past and with deeds that can be undone (points 75 to 78)."""

from everypast.claims import settle
from everypast.errors import BadName, NothingToRedo, NothingToUndo
from everypast.listing import first_past
from everypast.news import news
from everypast.rows import walls_parting
from everypast.shapes import check_position
from everypast.sites import Site
from everypast.solving import check_past
from everypast.stocks import Stock

LOOKS = "looks"


class Desk:
    """A house that has a past, a picture, which is a past of the house, and the entries of the deeds done."""

    def __init__(self, house):
        if LOOKS in house.names:
            raise BadName(LOOKS)
        self.house = house
        self.asked = 0
        self._picture = first_past(house.family())
        self._entries = []
        self._before = []
        self._undone = []

    def __len__(self):
        return len(self._entries)

    def __iter__(self):
        return iter(self._entries)

    @property
    def picture(self):
        """The picture, as a new list."""
        return list(self._picture)

    def take(self, site, find):
        """Let the site take the find, and return its index in the site."""
        changed = self.house.site(site)
        place = changed.take(find)
        house = self.house.with_site(site, changed)
        stays = house.family().is_past(self._picture)
        picture = self._picture if stays else first_past(house.family())
        self._do(("take", site, tuple(find)), house, picture)
        return place

    def drop(self, site, place):
        """Drop the find at this index of the site, and return it."""
        changed = self.house.site(site)
        find = changed.drop(place)
        self._do(("drop", site, place), self.house.with_site(site, changed), self._picture)
        return find

    def look(self, cell, position):
        """Note that a look at the cell has shown the position, and return the walls that the picture changes."""
        stock = self.house.stock
        shape = stock.shape_of(cell)
        check_position(shape, position)
        site = _looks_with(self.house, cell)
        site.take(("rows", (cell,), ((position,),)))
        house = self.house.with_site(LOOKS, site)
        check_past(house.family())
        shown = [(cell, number) for number in shape.sides_at(position)]
        nearest, _ = news(self.house.family(), self._picture, shown)
        changes = walls_parting(stock, self._picture, nearest)
        self._do(("look", cell, position), house, nearest)
        return changes

    def ask(self, sides):
        """Decide the claim for the family of the house, and count the question."""
        self.asked += 1
        return settle(self.house.family(), sides)

    def undo(self):
        """Undo the last deed that is done, and return its entry."""
        if not self._entries:
            raise NothingToUndo()
        entry = self._entries.pop()
        self._undone.append((entry, self.house, self._picture))
        self.house, self._picture = self._before.pop()
        return entry

    def redo(self):
        """Do the last deed that was undone again, and return its entry."""
        if not self._undone:
            raise NothingToRedo()
        entry, house, picture = self._undone.pop()
        self._step_to(entry, house, picture)
        return entry

    def _do(self, entry, house, picture):
        """Do a new deed that leads to this house and this picture; nothing can be done again any more."""
        self._undone.clear()
        self._step_to(entry, house, picture)

    def _step_to(self, entry, house, picture):
        """Note the entry, and take this house and this picture in the place of the old ones, which are kept."""
        self._entries.append(entry)
        self._before.append((self.house, self._picture))
        self.house = house
        self._picture = picture


def _looks_with(house, cell):
    """Return a new site of looks, with the cell and with the cells and finds that the house has noted so far."""
    noted = house.site(LOOKS) if LOOKS in house.names else Site(Stock({}))
    cells = {name: noted.stock.shape_of(name) for name in noted.stock}
    cells.setdefault(cell, house.stock.shape_of(cell))
    site = Site(Stock(cells))
    site.take_all(list(noted))
    return site
