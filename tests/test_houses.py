import itertools
import random
import unittest

from by_definition import Case, every_past, row_has, sides, state_of
from by_meaning import names_of_house, rows_of_house, some_houses

from everypast.digs import Digs
from everypast.errors import BadIndex, BadName, BadSide, NotCertain, UnknownName, UnlikeShapes
from everypast.families import Family
from everypast.houses import House, culprits, house_conflict, leans_on
from everypast.layers import Layers
from everypast.shades import Shades
from everypast.shapes import line, star
from everypast.sites import Site
from everypast.stocks import Stock
from everypast.tunnels import Tunnels
from everypast.vats import Cuts, Vat

HOUSES = some_houses(60, seed=710) + some_houses(60, seed=711, bent=0.5) + some_houses(30, seed=712, finds=5, bent=0.15)


def state_of_house(house):
    """What can be seen of a house, in new lists."""
    return (
        house.names, house.stock.names, list(house.family()), list(house.sources()),
        [state_of(house.site(name)) for name in house.names],
    )


def all_finds(sites):
    return [(name, place) for name, site in sites.items() for place in range(len(site))]


def clash():
    """A house of three sites without a past, with two conflicts and no culprit."""
    shades = Shades(["a", "b"], 2)
    shades.take_all([("shade", "a", 2, 2), ("shade", "a", 1, 1), ("less", "a", "b", 1, 2)])
    layers = Layers(["b", "c"], 2)
    layers.take_all([("level", "b", "c"), ("from", "b", 2)])
    plain = Site(Stock({"d": star(3), "c": line(2)}))
    plain.take_all([("bond", ("c", -1)), ("bond", ("d", 1))])
    return {"hues": shades, "pits": layers, "rest": plain}


class Houses(Case):
    def test_some_houses(self):
        pasts = []
        for house, sites in HOUSES:
            self.assertEqual((house.names, len(house)), (tuple(sites), len(sites)))
            self.assertEqual(list(house.stock.names), names_of_house(sites))
            family = house.family()
            self.assertIs(type(family), Family)
            self.assertEqual(family.stock.names, house.stock.names)
            bonds = [bond for site in sites.values() for bond in site.family()]
            self.assertEqual(list(family), bonds)
            sources = [(name, place) for name, site in sites.items() for place in site.sources()]
            self.assertEqual(house.sources(), sources)
            rows = rows_of_house(sites)
            self.assertEqual(every_past(family), rows)
            pasts.append(len(rows))
            for name, site in sites.items():
                others = [cell for other in sites if other != name for cell in sites[other].stock.names]
                self.assertEqual(house.shared(name), [cell for cell in site.stock.names if cell in others])
                twin = house.site(name)
                self.assertIs(type(twin), type(site))
                self.assertEqual(state_of(twin), state_of(site))
        self.assertGreater(pasts.count(0), 20)
        self.assertGreater(len([count for count in pasts if count > 2]), 40)

    def test_without_sites(self):
        house = House({})
        self.assertEqual((house.names, house.stock.names, len(house), house.sources()), ((), (), 0, []))
        self.assertEqual((list(house.family()), every_past(house.family())), ([], [()]))
        self.assertEqual((house_conflict(house), culprits(house)), (None, None))

    def test_one_site_and_a_site_without_cells(self):
        layers = Layers(["a"], 1)
        layers.take(("from", "a", 1))
        house = House({"one": layers, "none": Site(Stock({}))})
        self.assertEqual((house.stock.names, house.shared("one"), house.shared("none")), (("a",), [], []))
        self.assertEqual((every_past(house.family()), house.sources()), ([(1,)], [("one", 0)]))

    def test_cells_that_two_and_three_sites_share(self):
        sites = clash()
        sites["more"] = Cuts(Vat([1, 1]), ["c", "e", "a"])
        house = House(sites)
        self.assertEqual(house.stock.names, ("a", "b", "c", "d", "e"))
        self.assertEqual([house.shared(name) for name in house.names], [["a", "b"], ["b", "c"], ["c"], ["c", "a"]])
        self.assertEqual(every_past(house.family()), rows_of_house(sites))

    def test_errors_in_their_order(self):
        small, large = Layers(["a", "b"], 1), Layers(["b", "a"], 2)
        for sites, error, name in (
            ({"A": small, "b": large}, BadName, "A"), ({"one": small, "two": large, "Three": small}, UnlikeShapes, "b"),
            ({"one": small, "": large}, BadName, ""), ({"one": small, "looks": small, "toolongname": small}, BadName,
                                                      "toolongname"),
            ({"one": Site(Stock({"x": star(2), "a": star(2), "b": star(2)})), "two": large}, UnlikeShapes, "b"),
            ({"one": Site(Stock({"a": line(2)})), "two": small}, UnlikeShapes, "a"),
        ):
            self.raises(error, {"name": name}, House, sites)

    def test_unknown_names_and_indexes(self):
        house = House(clash())
        for name in ("", "Hues", "more", "a"):
            self.raises(UnknownName, {"name": name}, house.site, name)
            self.raises(UnknownName, {"name": name}, house.shared, name)
            self.raises(UnknownName, {"name": name}, house.without_find, name, 99)
        for place in (-1, 3, 20000):
            self.raises(BadIndex, {"place": place}, house.without_find, "hues", place)

    def test_a_house_keeps_its_own_sites(self):
        sites = clash()
        house = House(sites)
        before = state_of_house(house)
        sites["hues"].drop(0)
        sites["rest"].take(("bond", ("d", 2)))
        del sites["pits"]
        house.site("pits").drop(1)
        house.sources().clear()
        house.shared("hues").clear()
        self.assertEqual(state_of_house(house), before)

    def test_other_houses(self):
        house = House(clash())
        before = state_of_house(house)
        new = Layers(["c", "a"], 2)
        new.take(("level", "a", "c"))
        larger = house.with_site("pits2", new)
        replaced = house.with_site("hues", new)
        fewer = house.without_find("pits", 0)
        new.drop(0)
        self.assertEqual((larger.names, larger.stock.names), (("hues", "pits", "rest", "pits2"), ("a", "b", "c", "d")))
        self.assertEqual((replaced.names, replaced.stock.names), (("hues", "pits", "rest"), ("c", "a", "b", "d")))
        self.assertEqual((list(larger.site("pits2")), list(replaced.site("hues"))), ([("level", "a", "c")],) * 2)
        self.assertEqual(list(fewer.site("pits")), [("from", "b", 2)])
        self.assertEqual([list(fewer.site(name)) for name in ("hues", "rest")],
                         [list(house.site(name)) for name in ("hues", "rest")])
        self.assertEqual(state_of_house(house), before)

    def test_errors_of_other_houses(self):
        house = House({"one": Layers(["a", "b"], 2), "two": Layers(["b", "c"], 2)})
        odd = Site(Stock({"d": star(2), "c": star(2), "b": star(2)}))
        for name in ("", "One", "abcdefghi"):
            self.raises(BadName, {"name": name}, house.with_site, name, odd)
        self.raises(UnlikeShapes, {"name": "c"}, house.with_site, "three", odd)
        # In the place of the first site, the later sites do not fit any more.
        self.raises(UnlikeShapes, {"name": "b"}, house.with_site, "one", odd)
        self.raises(UnlikeShapes, {"name": "b"}, house.with_site, "two", odd)
        self.assertEqual(len(house.with_site("two", Site(Stock({"c": star(2)}))).names), 2)


class Conflicts(Case):
    def without(self, sites, left_out):
        return rows_of_house(sites, left_out=left_out)

    def test_conflicts_and_culprits(self):
        seen = {"none": 0, "one": 0, "more": 0, "past": 0}
        for house, sites in HOUSES:
            finds = all_finds(sites)
            found = house_conflict(house)
            if rows_of_house(sites):
                self.assertEqual((found, culprits(house)), (None, None))
                seen["past"] += 1
                continue
            self.assertEqual(found, sorted(set(found), key=finds.index))
            others = [find for find in finds if find not in found]
            self.assertEqual(self.without(sites, others), [])
            for find in found:
                self.assertTrue(self.without(sites, [*others, find]))
            expected = [find for find in finds if self.without(sites, [find])]
            self.assertEqual(culprits(house), expected)
            seen[["none", "one", "more"][min(len(expected), 2)]] += 1
        self.assertGreater(min(seen.values()), 3)

    def test_several_conflicts_without_a_culprit(self):
        sites = clash()
        house = House(sites)
        self.assertEqual(rows_of_house(sites), [])
        self.assertIn(house_conflict(house), (
            [("hues", 0), ("hues", 1)], [("pits", 0), ("pits", 1), ("rest", 0)],
            [("hues", 0), ("hues", 2), ("pits", 1)], [("hues", 1), ("hues", 2), ("pits", 1)],
        ))
        self.assertEqual(culprits(house), [])

    def test_a_find_that_stands_in_two_sites(self):
        sites = {name: Layers(["a", "b"], 1) for name in ("one", "two")}
        for site in sites.values():
            site.take_all([("after", "a", "b", 1)])
        house = House(sites)
        for side in (("a", 1), ("b", -1)):
            self.assertEqual(leans_on(house, side), [])
            self.assertEqual(leans_on(house.without_find("one", 0), side), [("two", 0)])
        sites["two"].take(("from", "b", 1))
        house = House(sites)
        self.assertEqual(culprits(house), [("two", 1)])
        self.assertIn(house_conflict(house), ([("one", 0), ("two", 1)], [("two", 0), ("two", 1)]))

    def test_a_find_that_allows_nothing(self):
        plain = Site(Stock({"a": star(3)}))
        plain.take_all([("bond", ("a", 1)), ("rows", ("a",), ())])
        house = House({"one": Layers(["b"], 1), "two": plain})
        self.assertEqual((house_conflict(house), culprits(house)), ([("two", 1)], [("two", 1)]))

    def test_what_is_returned_can_be_changed(self):
        house = House(clash())
        house_conflict(house).clear()
        culprits(house).append(1)
        self.assertTrue(house_conflict(house))
        self.assertEqual(culprits(house), [])


class Leaning(Case):
    def test_some_houses(self):
        seen = {0: 0, 1: 0, 2: 0}
        for house, sites in HOUSES:
            rows = rows_of_house(sites)
            if not rows:
                self.raises_no_past(house.family(), leans_on, house, sides(house.stock)[0])
                continue
            finds = all_finds(sites)
            left = {find: rows_of_house(sites, left_out=[find]) for find in finds}
            for side in sides(house.stock):
                if not all(row_has(house.stock, row, side) for row in rows):
                    self.raises(NotCertain, {"side": side}, leans_on, house, side)
                    continue
                expected = [find for find in finds if not all(row_has(house.stock, row, side) for row in left[find])]
                self.assertEqual(leans_on(house, side), expected)
                seen[min(len(expected), 2)] += 1
        self.assertGreater(min(seen.values()), 15)

    def test_errors_in_their_order(self):
        broken = House(clash())
        tunnels = Tunnels([0, 0], [1, 1])
        digs = Digs(["pot"], tunnels)
        digs.take(("beyond", "pot", 1))
        whole = House({"digs": digs})
        for house in (broken, whole):
            for side in (("pot", 0), ("pot", 3), ("", 1), ("z", 1), ("a", 9)):
                self.raises(BadSide, {"side": side}, leans_on, house, side)
        self.raises_no_past(broken.family(), leans_on, broken, ("c", 1))
        self.raises(NotCertain, {"side": ("pot", -1)}, leans_on, whole, ("pot", -1))
        self.assertEqual(leans_on(whole, ("pot", -2)), [("digs", 0)])
        self.raises(NotCertain, {"side": ("pot", 1)}, leans_on, whole.without_find("digs", 0), ("pot", 1))


class Orders(Case):
    def test_the_order_of_the_sites_counts(self):
        dice = random.Random(713)
        for house, sites in HOUSES[:20]:
            for order in itertools.islice(itertools.permutations(sites), 3):
                turned = {name: sites[name] for name in order}
                other = House(turned)
                self.assertEqual(every_past(other.family()), rows_of_house(turned))
                self.assertEqual(len(every_past(other.family())), len(every_past(house.family())))
                if dice.random() < 0.5:
                    self.assertEqual(list(other.stock.names), names_of_house(turned))


if __name__ == "__main__":
    unittest.main()
