"""Letters: what a site tells the others about the cells that it shares, and sites folded into others (73 and 74)."""

from everypast.bonds import tight_among
from everypast.errors import SameSite
from everypast.families import Family
from everypast.graphs import across, leads
from everypast.houses import House
from everypast.sites import Site
from everypast.solving import check_past
from everypast.stocks import Stock


def letter(house, name):
    """Return the letter of the site, a list of bonds."""
    family = house.site(name).family()
    cells = house.shared(name)
    check_past(family)
    graph = family.graph
    places = graph.places
    sides = [side for side in family.stock.sides() if side[0] in cells]
    # Where no side of a bond is certain, the bond holds exactly if the opposite of one side leads to the other one.
    return tight_among(family.stock, sides, lambda first, second: leads(graph, across(places[first]), places[second]))


def family_by_letters(house, name):
    """Return the family of the site's own bonds and of the letters of all other sites."""
    site = house.site(name)
    bonds = list(site.family())
    shared = []
    for other in house.names:
        shared.extend(house.shared(other))
        if other != name:
            bonds.extend(letter(house, other))
    cells = [*site.stock.names, *[cell for cell in house.stock if cell in shared and cell not in site.stock]]
    return Family(house.stock.part(cells), bonds)


def folded(house, name, into):
    """Return the house in which the site `name` is folded into the site `into`."""
    site = house.site(name)
    other = house.site(into)
    if name == into:
        raise SameSite(name)
    bonds = [*other.family(), *letter(house, name)]
    cells = [*other.stock.names, *[cell for cell in house.shared(name) if cell not in other.stock]]
    plain = Site(house.stock.part(cells))
    plain.take_all([("bond", *bond) for bond in bonds])
    return House({kept: plain if kept == into else house.site(kept) for kept in house.names if kept != name})
