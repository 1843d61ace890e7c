"""Houses: sites that share cells, and what their finds have to do with what is certain (points 71 and 72)."""

from everypast.conflicts import bonds_of_ring, leave_past
from everypast.errors import BadName, NotCertain, UnknownName, UnlikeShapes
from everypast.families import Family
from everypast.graphs import INSIDE, across, is_certain, is_in, led_with, shortest_chain
from everypast.names import valid_name
from everypast.shapes import equal_shapes
from everypast.solving import check_past
from everypast.stocks import Stock, check_stock_side


class House:
    """Sites with names, in a fixed order; cells with the same name in different sites are one cell."""

    def __init__(self, sites):
        cells = {}
        for name in sites:
            if not valid_name(name):
                raise BadName(name)
            for cell in sites[name].stock:
                shape = sites[name].stock.shape_of(cell)
                if cell in cells and not equal_shapes(cells[cell], shape):
                    raise UnlikeShapes(cell)
                cells.setdefault(cell, shape)
        self.names = tuple(sites)
        self.stock = Stock(cells)
        self._sites = {name: sites[name].twin() for name in sites}
        self._sources = [(name, place) for name in self.names for place in self._sites[name].sources()]
        self._family = Family(self.stock, [bond for name in self.names for bond in _bonds_of(self._sites[name])])

    def __len__(self):
        return len(self.names)

    def site(self, name):
        """Return a twin of the site."""
        if name not in self._sites:
            raise UnknownName(name)
        return self._sites[name].twin()

    def family(self):
        """Return the family of the house."""
        return self._family

    def sources(self):
        """Return, for each bond of the family, the pair of the site and the index of the find to which it belongs."""
        return list(self._sources)

    def shared(self, name):
        """Return the cells that the site shares, in the order of the site."""
        others = [self._sites[other].stock for other in self.names if other != name]
        return [cell for cell in self.site(name).stock if any(cell in stock for stock in others)]

    def with_site(self, name, site):
        """Return a new house in which the site with this name is replaced, or added at the end."""
        return House({**self._sites, name: site})

    def without_find(self, name, place):
        """Return a new house in which the find at this index of the site is dropped."""
        site = self.site(name)
        site.drop(place)
        return self.with_site(name, site)


def _bonds_of(site):
    """Return the bonds of the finds of the site, in the order of the finds."""
    return [bond for place in range(len(site)) for bond in site.bonds_of(place)]


def house_conflict(house):
    """Return the finds of a conflict of the house, in their order, or None if it has a past."""
    ring = bonds_of_ring(house.family())
    if ring is None:
        return None
    sources = house.sources()
    # The finds of a ring leave no past; what can be left out of them one by one is no part of the conflict.
    kept = _each_once([sources[bond] for bond in ring])
    for find in list(kept):
        fewer = [other for other in kept if other != find]
        if not leave_past(house.family().graph, [bond for bond, source in enumerate(sources) if source in fewer]):
            kept = fewer
    return kept


def _each_once(finds):
    """Return the finds of the list in their order, each one once."""
    return list({find: True for find in finds})


def _bonds_beside(house, find):
    """Return the indexes of the bonds of the house that belong to other finds."""
    return [bond for bond, source in enumerate(house.sources()) if source != find]


def culprits(house):
    """Return all culprits, in the order of the sites and of their finds, or None if the house has a past."""
    found = house_conflict(house)
    if found is None:
        return None
    # A culprit is in every conflict, so also in this one.
    return [find for find in found if leave_past(house.family().graph, _bonds_beside(house, find))]


def leans_on(house, side):
    """Return the finds on which the certain side leans, in the order of the sites and of their finds."""
    family = house.family()
    check_stock_side(family.stock, side)
    check_past(family)
    graph = family.graph
    place = graph.places[side]
    if not is_certain(graph, place):
        raise NotCertain(side)
    # The finds of a chain that shows the side keep it certain: it leans on none but some of these.
    _, bonds = shortest_chain(graph, across(place), place)
    sources = house.sources()
    shown_by = _each_once([sources[bond] for bond in sorted(bonds) if bond != INSIDE])
    return [
        find
        for find in shown_by
        if not is_in(place, led_with(graph, _bonds_beside(house, find))[across(place)])
    ]
