"""Houses to try, and their rows: all rows of the stock, held against the meanings of all finds of all sites."""

import functools
import itertools
import random

import test_digs
import test_layers
import test_shades
import test_sites
import test_texts
import test_vats
from test_routes import clerk_of
from test_clerks import CLERKS

from everypast.clerks import identity
from everypast.digs import Digs
from everypast.houses import House
from everypast.layers import Layers
from everypast.shades import Shades
from everypast.shapes import Shape, line
from everypast.sites import Site
from everypast.stocks import Stock
from everypast.texts import Text
from everypast.tunnels import Tunnels
from everypast.vats import Cuts, Vat

READERS = {
    Layers: test_layers.allowed_in, Text: test_texts.allowed_in, Shades: test_shades.allowed_in,
    Cuts: test_vats.allowed_in, Digs: test_digs.allowed_in, Site: lambda site: test_sites.allowed_in(site.stock),
}


def allowed_by(site):
    """What the finds of a site of any kind name and allow."""
    return READERS[type(site)](site)


def names_of_house(sites):
    """The cells of a house of these sites, in their order."""
    return list(dict.fromkeys(name for site in sites.values() for name in site.stock.names))


def rows_of_house(sites, *, left_out=()):
    """All rows of the stock that all finds allow, without those finds that are left out; in ascending order."""
    names = names_of_house(sites)
    sizes = {name: len(site.stock.shape_of(name).parents) for site in sites.values() for name in site.stock.names}
    told = []
    for key, site in sites.items():
        allowed = allowed_by(site)
        for place, find in enumerate(site):
            if (key, place) not in left_out:
                cells, rows = allowed(find)
                told.append(([names.index(cell) for cell in cells], rows))
    return [
        row
        for row in itertools.product(*[range(sizes[name] + 1) for name in names])
        if all(tuple(row[at] for at in places) in rows for places, rows in told)
    ]


def onto(names, rows, cells):
    """The rows of positions that the rows have for some cells, in ascending order."""
    places = [list(names).index(cell) for cell in cells]
    return sorted({tuple(row[place] for place in places) for row in rows})


def some_text_find(dice, text):
    place = dice.choice(text.places)
    name = dice.choice(text.clerk_names)
    size = text.clerk_of(name).other.size
    return dice.choice([
        ("copy", name, place, dice.randint(0, size), dice.randint(0, 1)),
        ("copy", name, place, dice.randint(0, size), 0), ("same", *text.places[:2]),
        ("among", place, tuple(dice.sample(range(text.shape.size + 1), dice.randint(1, 2)))),
    ])


def some_site(dice, kind, lines, others, parents):
    """A site without finds of its own over some of these cells, and a function that makes up finds for it."""
    names = dice.sample(lines, 2)
    two = dice.sample(others, 2)
    if kind is Layers:
        site = Layers(names, 2)
        return site, lambda: test_layers.some_find(dice, list(site.deeds), 2)
    if kind is Shades:
        site = Shades(names, 2)
        return site, lambda: test_shades.some_find(dice, list(site.cells), 2, exact=0.3)
    if kind is Cuts:
        site = Cuts(Vat(test_vats.some_steps(dice, 2, 3)), names)
        return site, lambda: test_vats.some_find(dice, site)
    if kind is Digs:
        site = Digs(two, Tunnels(parents, [dice.randint(1, 3) for _ in parents]))
        return site, lambda: test_digs.some_find(dice, site)
    if kind is Text:
        fitting = [clerk for clerk in CLERKS if clerk[0] == parents]
        told = {"ann": clerk_of(*dice.choice(fitting)) if fitting else identity(Shape(parents)),
                "bob": identity(Shape(parents))}
        site = Text(two, Shape(parents), told)
        return site, lambda: some_text_find(dice, site)
    chosen = dice.sample([(name, line(2)) for name in lines] + [(name, Shape(parents)) for name in others], 3)
    site = Site(Stock(dict(chosen)))
    return site, lambda: test_sites.some_find(dice, site.stock)


ALL_KINDS = [Site, Layers, Text, Shades, Cuts, Digs]


def some_sites_of_house(dice, kinds, *, finds=3, bent=0.0):
    """Sites of these kinds that share cells; only the bent part of the finds need not fit one row."""
    lines = ["a", "b", "c"]
    others = ["p", "q"]
    parents = dice.choice([[0, 0], [0, 1], [0, 0]])
    truth = {name: dice.randint(0, 2) for name in lines + others}
    sites = {}
    for number, kind in enumerate(kinds):
        site, make = some_site(dice, kind, lines, others, parents)
        for place in range(len(site) - 1, -1, -1):
            if not site.allows([truth[name] for name in site.stock.names]):
                site.drop(place)
        for _ in range(dice.randint(0, 3 * finds)):
            other = site.twin()
            other.take(make())
            fits = other.allows([truth[name] for name in site.stock.names])
            if len(site) < 12 and (fits or dice.random() < bent):
                site = other
            if len(site) >= finds:
                break
        sites[f"s{number}"] = site
    return sites


@functools.cache
def some_houses(count, *, seed, most=4, finds=3, bent=0.0):
    """Pairs of a house and a dict of sites like its own, always the same ones for the same numbers."""
    dice = random.Random(seed)
    found = []
    for _ in range(count):
        kinds = dice.sample(ALL_KINDS * 2, dice.randint(1, most))
        sites = some_sites_of_house(dice, kinds, finds=finds, bent=bent)
        found.append((House(sites), {name: site.twin() for name, site in sites.items()}))
    return found
