"""The names and parameters of the interface, each defined in its own file and class."""

import inspect
import importlib
import unittest

FUNCTIONS = {
    "names": ("valid_name(text)",),
    "shapes": ("line(size)", "star(size)", "equal_shapes(shape, other)"),
    "middles": (
        "middle(shape, first, second, third)", "odd_middle(shape, positions)",
        "total_distance(shape, positions, position)",
    ),
    "regions": (
        "common(shape, sides)", "is_connected(shape, positions)", "span(shape, positions)",
        "fences(shape, positions)",
    ),
    "stocks": ("opposite(side)",),
    "rows": (
        "is_row(stock, row)", "has_side(stock, row, side)", "sides_of(stock, row)", "middle_row(stock, rows)",
        "walls_parting(stock, row, other)", "lies_between(stock, row, start, goal)",
    ),
    "bonds": (
        "keeps_bond(stock, row, bond)", "is_idle(stock, bond)", "tight_bonds(stock, rows, *, cells=None)",
    ),
    "clerks": ("map_fault(shape, other, images)", "identity(shape)"),
    "chains": (
        "steps_from(family, side)", "reached(family, side)", "chain(family, start, goal)", "turned(path)",
    ),
    "papers": ("is_chain(family, path, *, start=None, goal=None)", "is_ring(family, there, back)"),
    "solving": ("solve(family)", "together(family, sides)"),
    "claims": (
        "verdict(family, side)", "certain_sides(family)", "open_sides(family)", "bond_holds(family, bond)",
        "settle(family, sides)",
    ),
    "possible": (
        "possible_positions(family, cell)", "possible_rows(family, cells)", "decide(family, cells, rows)",
    ),
    "listing": (
        "first_past(family)", "next_past(family, row)", "pasts(family, *, limit=20)",
        "count_pasts(family, *, limit=50)",
    ),
    "conflicts": ("conflict(family)", "unavoidable(family)"),
    "ties": ("ties(family)", "tie_of(family, side)", "parting_ties(family, row, other)"),
    "twins": ("near_twins(family, side)", "are_near(family, row, other)", "trail(family, start, goal)"),
    "free": (
        "free(family, walls)", "answers(family, walls)", "free_ties(family)", "count_free_sets(family, *, limit=50)",
    ),
    "news": ("news(family, row, sides)",),
    "looks": (
        "settles(family, looks, side)", "gained(family, shown)", "outcomes(family, look)",
        "least_yield(family, look)", "best_look(family, looks, costs)",
    ),
    "raising": (
        "earliest(layers)", "latest(layers)", "least_with(layers, deed, layer)", "generators(layers)",
        "conflict_chain(layers)",
    ),
    "orders": (
        "signs(layers, first, second)", "order(layers, first, second)", "hidden_marks(layers)",
        "with_mark(layers, place, sign)", "mark_yields(layers, place)",
    ),
    "rounds": (
        "counts(clerk)", "settling(clerk)", "kept_for_ever(clerk)", "orbit(clerk, sign)", "home_signs(clerk)",
        "swaps(clerk)",
    ),
    "texts": ("readings(text, place)", "told_by(text, place, side)"),
    "webs": ("web_of(shades, cell)", "webs(shades)", "odd_walk(shades, cell)", "account(shades, cell)"),
    "sweeps": (
        "possible_cuts(cuts, cloth)", "earliest_cuts(cuts)", "latest_cuts(cuts)", "possible_dips(cuts, cloth)",
        "possible_shades(cuts, cloth)",
    ),
    "turning": (
        "turned_row(stock, names, row)", "turned_family(family, names)", "extremes(family)", "turning(family)",
        "is_odd_ring(family, entries)",
    ),
    "bundles": (
        "best_set(tunnels, weights)", "prices(tunnels, weights, a, b)",
        "are_prices(tunnels, weights, a, b, offered)",
    ),
    "stairs": ("stairs(tunnels, weights)", "corners(tunnels, weights)", "height(tunnels, weights, length)"),
    "digs": ("places(digs, thing)",),
    "spots": (
        "serving(family, spots, side)", "nearest_spot(family, spots, side)", "least_digging(family, spots, sides)",
    ),
    "houses": ("house_conflict(house)", "culprits(house)", "leans_on(house, side)"),
    "letters": ("letter(house, name)", "family_by_letters(house, name)", "folded(house, name, into)"),
    "talks": ("talk(family, truth, looks)",),
    "notation": ("write_entry(entry)", "read_entry(text)", "write_journal(entries)", "read_journal(text)"),
    "replaying": ("replay(house, journal)",),
}

METHODS = {
    ("shapes", "Shape"): (
        "__init__(self, parents)", "positions_of(self, side)", "has(self, position, side)",
        "sides_at(self, position)", "leads_inside(self, side, other)", "way(self, start, goal)",
        "parting(self, first, second)", "distance(self, first, second)", "is_line(self)",
    ),
    ("stocks", "Stock"): (
        "__init__(self, cells)", "__len__(self)", "__iter__(self)", "__contains__(self, name)",
        "shape_of(self, name)", "sides(self)", "walls(self)", "part(self, names)",
    ),
    ("tables", "Table"): (
        "__init__(self, stock, rows)", "__len__(self)", "__iter__(self)", "__contains__(self, row)",
        "__and__(self, other)", "fault(self)", "tight(self)", "hull(self)", "onto(self, names)",
    ),
    ("clerks", "Clerk"): (
        "__init__(self, shape, other, images)", "__call__(self, position)", "__mul__(self, other)",
        "pulled(self, wall)", "walls_kept(self)", "table(self, name, image_name)",
    ),
    ("families", "Family"): (
        "__init__(self, stock, bonds)", "__len__(self)", "__iter__(self)", "is_past(self, row)",
        "extended(self, bonds)", "without(self, place)",
    ),
    ("sites", "Site"): (
        "__init__(self, stock)", "__len__(self)", "__iter__(self)", "take(self, find)", "take_all(self, finds)",
        "drop(self, place)", "twin(self)", "bonds_of(self, place)", "family(self)", "sources(self)",
        "allows(self, row)",
    ),
    ("layers", "Layers"): ("__init__(self, deeds, last)",),
    ("routes", "Route"): (
        "__init__(self, shape, *clerks)", "__len__(self)", "__iter__(self)", "then(self, clerk)", "composed(self)",
        "copied(self, sign)", "walls_kept(self)", "loss(self, wall)", "alike(self, first, second)",
    ),
    ("texts", "Text"): ("__init__(self, places, shape, clerks)", "clerk_of(self, name)"),
    ("shades", "Shades"): ("__init__(self, cells, top)",),
    ("vats", "Vat"): ("__init__(self, steps)", "strength(self, dips)"),
    ("vats", "Cuts"): ("__init__(self, vat, cloths)",),
    ("tunnels", "Tunnels"): (
        "__init__(self, parents, lengths)", "opened(self, positions)", "cost(self, positions, *, opened=())",
        "between(self, first, second)", "is_closed(self, walls)", "total(self, values, walls)",
    ),
    ("digs", "Digs"): ("__init__(self, things, tunnels)",),
    ("spots", "Spots"): ("__init__(self, tunnels, shown)", "__len__(self)", "__iter__(self)", "shown_at(self, position)"),
    ("houses", "House"): (
        "__init__(self, sites)", "__len__(self)", "site(self, name)", "family(self)", "sources(self)",
        "shared(self, name)", "with_site(self, name, site)", "without_find(self, name, place)",
    ),
    ("desk", "Desk"): (
        "__init__(self, house)", "__len__(self)", "__iter__(self)", "take(self, site, find)", "drop(self, site, place)",
        "look(self, cell, position)", "ask(self, sides)", "undo(self)", "redo(self)",
    ),
}


class Interface(unittest.TestCase):
    def check(self, owner, written, file):
        found = vars(owner)[written.split("(")[0]]
        self.assertEqual(found.__name__ + str(inspect.signature(found)), written)
        self.assertEqual(found.__module__, f"everypast.{file}")

    def test_functions(self):
        for file, functions in FUNCTIONS.items():
            for written in functions:
                self.check(importlib.import_module(f"everypast.{file}"), written, file)

    def test_classes(self):
        for (file, name), methods in METHODS.items():
            owner = vars(importlib.import_module(f"everypast.{file}"))[name]
            self.assertEqual(owner.__module__, f"everypast.{file}")
            for written in methods:
                self.check(owner, written, file)

    def test_all_other_sites_are_sites(self):
        base = vars(importlib.import_module("everypast.sites"))["Site"]
        for file, name in (
            ("layers", "Layers"), ("texts", "Text"), ("shades", "Shades"), ("vats", "Cuts"), ("digs", "Digs"),
        ):
            self.assertTrue(issubclass(vars(importlib.import_module(f"everypast.{file}"))[name], base))


if __name__ == "__main__":
    unittest.main()
