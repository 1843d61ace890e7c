import itertools
import random
import unittest

from by_definition import Case, every_past, sides, some_stock, tight
from by_meaning import names_of_house, onto, rows_of_house, some_houses
from test_houses import clash, state_of_house
from test_sites import some_find

from everypast.claims import settle, verdict
from everypast.errors import SameSite, UnknownName
from everypast.families import Family
from everypast.houses import House
from everypast.layers import Layers
from everypast.letters import family_by_letters, folded, letter
from everypast.shapes import line, star
from everypast.sites import Site
from everypast.stocks import Stock

HOUSES = some_houses(70, seed=730) + some_houses(50, seed=731, bent=0.5)


def plain_houses(count, *, seed):
    """Houses of plain sites over a few cells of any shape."""
    dice = random.Random(seed)
    found = []
    for _ in range(count):
        stock = some_stock(dice, 4, 3)
        sites = {}
        for name in ("x", "y", "z")[:dice.randint(2, 3)]:
            part = stock.part(dice.sample(stock.names, dice.randint(0, min(3, len(stock.names)))))
            sites[name] = Site(part)
            if len(part) > 0:
                sites[name].take_all([some_find(dice, part) for _ in range(dice.randint(0, 3))])
        found.append((House(sites), sites))
    return found


PLAIN = plain_houses(80, seed=732)


def shared_cells(sites, name):
    others = [cell for other in sites if other != name for cell in sites[other].stock.names]
    return [cell for cell in sites[name].stock.names if cell in others]


def letter_by_definition(sites, name):
    site = sites[name]
    return tight(site.stock, rows_of_house({name: site}), shared_cells(sites, name))


class Letters(Case):
    def test_some_letters(self):
        seen = {"none": 0, "empty": 0, "one": 0, "two": 0}
        for house, sites in HOUSES + PLAIN:
            for name, site in sites.items():
                if not rows_of_house({name: site}):
                    self.raises_no_past(site.family(), letter, house, name)
                    seen["none"] += 1
                    continue
                found = letter(house, name)
                self.assertEqual(found, letter_by_definition(sites, name))
                seen["empty"] += found == []
                seen["one"] += any(len(bond) == 1 for bond in found)
                seen["two"] += any(len(bond) == 2 for bond in found)
        self.assertGreater(min(seen.values()), 10)

    def test_the_letter_describes_the_shared_rows(self):
        for house, sites in HOUSES + PLAIN:
            for name, site in sites.items():
                rows = rows_of_house({name: site})
                if rows:
                    cells = shared_cells(sites, name)
                    family = Family(house.stock.part(cells), letter(house, name))
                    self.assertEqual(every_past(family), onto(site.stock.names, rows, cells))

    def test_a_site_that_shares_no_cell(self):
        layers = Layers(["a", "b"], 2)
        layers.take_all([("after", "a", "b", 1), ("from", "b", 1)])
        house = House({"one": layers, "two": Layers(["c"], 2)})
        self.assertEqual((letter(house, "one"), letter(house, "two")), ([], []))
        self.assertEqual(letter(House({"one": layers}), "one"), [])

    def test_the_order_of_the_sides(self):
        layers = Layers(["b", "a"], 2)
        layers.take_all([("after", "a", "b", 0), ("not", "a", 2)])
        house = House({"two": Layers(["a", "b"], 2), "one": layers})
        expected = [(("b", -2),), (("a", -2),), (("b", -1), ("a", 1))]
        self.assertEqual(letter(house, "one"), expected)
        letter(house, "one").clear()
        self.assertEqual(letter(house, "one"), expected)

    def test_errors_in_their_order(self):
        house = House(clash())
        for name in ("", "more", "a"):
            self.raises(UnknownName, {"name": name}, letter, house, name)
            self.raises(UnknownName, {"name": name}, family_by_letters, house, name)
            self.raises(UnknownName, {"name": name}, folded, house, name, "nobody")
            self.raises(UnknownName, {"name": name}, folded, house, name, name)
            self.raises(UnknownName, {"name": name}, folded, house, "hues", name)
        self.raises(SameSite, {"name": "hues"}, folded, house, "hues", "hues")
        self.raises_no_past(house.site("hues").family(), letter, house, "hues")
        self.raises_no_past(house.site("hues").family(), folded, house, "hues", "pits")


class ByLetters(Case):
    def test_some_families(self):
        seen = {"past": 0, "no past": 0, "no letter": 0, "own": 0}
        for house, sites in HOUSES + PLAIN:
            rows = rows_of_house(sites)
            for name, site in sites.items():
                empty = [other for other in sites if not rows_of_house({other: sites[other]}) and other != name]
                if empty:
                    self.raises_no_past(sites[empty[0]].family(), family_by_letters, house, name)
                    seen["no letter"] += 1
                    continue
                family = family_by_letters(house, name)
                shared = {cell for other in sites for cell in shared_cells(sites, other)}
                cells = list(site.stock.names)
                cells += [cell for cell in names_of_house(sites) if cell in shared and cell not in cells]
                self.assertEqual(list(family.stock.names), cells)
                bonds = list(site.family())
                for other in sites:
                    if other != name:
                        bonds += letter_by_definition(sites, other)
                self.assertEqual(list(family), bonds)
                self.assertEqual(every_past(family), onto(names_of_house(sites), rows, cells))
                seen["past" if rows else "no past"] += 1
                seen["own"] += not rows_of_house({name: site})
        self.assertGreater(min(seen.values()), 5)

    def test_verdicts_and_claims(self):
        dice = random.Random(733)
        compared = 0
        for house, sites in HOUSES:
            if not rows_of_house(sites):
                continue
            for name in sites:
                family = family_by_letters(house, name)
                listed = sides(family.stock)
                for side in listed:
                    self.assertEqual(verdict(family, side), verdict(house.family(), side))
                for _ in range(5):
                    claim = [dice.choice(listed) for _ in range(dice.randint(0, 3))]
                    self.assertEqual(settle(family, claim)[0], settle(house.family(), claim)[0])
                    compared += 1
        self.assertGreater(compared, 300)


class Folding(Case):
    def check_folded(self, house, sites, name, into):
        """Fold and compare; return the new house and the sites that it should have."""
        found = folded(house, name, into)
        self.assertIs(type(found), House)
        self.assertEqual(found.names, tuple(other for other in sites if other != name))
        cells = list(sites[into].stock.names)
        cells += [cell for cell in shared_cells(sites, name) if cell not in cells]
        plain = found.site(into)
        self.assertIs(type(plain), Site)
        self.assertEqual(list(plain.stock.names), cells)
        bonds = [*sites[into].family(), *letter_by_definition(sites, name)]
        self.assertEqual(list(plain), [("bond", *bond) for bond in bonds])
        left = {}
        for other in sites:
            if other not in (name, into):
                self.assertIs(type(found.site(other)), type(sites[other]))
                self.assertEqual(list(found.site(other)), list(sites[other]))
            if other != name:
                left[other] = found.site(other)
        rows = onto(names_of_house(sites), rows_of_house(sites), found.stock.names)
        self.assertEqual(every_past(found.family()), rows)
        return found, left

    def test_some_houses(self):
        seen = {"folded": 0, "no past": 0}
        for house, sites in HOUSES + PLAIN:
            before = state_of_house(house)
            for name, into in itertools.permutations(sites, 2):
                if rows_of_house({name: sites[name]}):
                    self.check_folded(house, sites, name, into)
                    seen["folded"] += 1
                else:
                    self.raises_no_past(sites[name].family(), folded, house, name, into)
                    seen["no past"] += 1
            self.assertEqual(state_of_house(house), before)
        self.assertGreater(min(seen.values()), 20)

    def test_all_sites_into_one_in_any_order(self):
        dice = random.Random(734)
        orders = 0
        for first, first_sites in HOUSES[:60]:
            if len(first_sites) < 3 or not rows_of_house(first_sites):
                continue
            for _ in range(3):
                house, sites = first, first_sites
                while len(sites) > 1:
                    name, into = dice.sample(list(sites), 2)
                    house, sites = self.check_folded(house, sites, name, into)
                for side in sides(house.stock):
                    self.assertEqual(verdict(house.family(), side), verdict(first.family(), side))
                orders += 1
        self.assertGreater(orders, 30)

    def test_more_than_twelve_finds(self):
        sites = {"one": Layers(["a", "b"], 8), "two": Layers(["a", "b"], 8), "none": Site(Stock({"s": star(2)}))}
        sites["one"].take_all([("after", "a", "b", 1), ("by", "a", 7)])
        sites["two"].take_all([("after", "a", "b", 2)])
        house, left = self.check_folded(House(sites), sites, "one", "two")
        self.assertGreater(len(left["two"]), 12)
        house, left = self.check_folded(house, left, "two", "none")
        self.assertEqual(house.names, ("none",))
        self.assertEqual(house.stock.names, ("s",))

    def test_without_shared_cells(self):
        sites = {"one": Layers(["a"], 2), "two": Site(Stock({"b": line(1)}))}
        sites["one"].take(("from", "a", 2))
        house, _ = self.check_folded(House(sites), sites, "one", "two")
        self.assertEqual((house.names, house.stock.names, list(house.site("two"))), (("two",), ("b",), []))


if __name__ == "__main__":
    unittest.main()
