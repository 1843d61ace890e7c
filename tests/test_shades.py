import random
import unittest

from by_definition import Case, every_past, state_of

from everypast.errors import BadFind, BadIndex, BadName, BadRow, BadShape
from everypast.shades import Shades
from everypast.shapes import line
from everypast.sites import Site


def allowed_in(shades):
    """What the finds of a site of shades name and allow, word by word."""
    every = range(shades.top + 1)

    def allowed(find):
        low, high = find[-2:]
        if find[0] == "shade":
            return [find[1]], {(v,) for v in every if low <= v <= high}
        sign = 1 if find[0] == "sum" else -1
        return [find[1], find[2]], {(v, w) for v in every for w in every if low <= v + sign * w <= high}
    return allowed


def some_find(dice, cells, top, *, exact=0.6):
    first, second = dice.sample(cells, 2)
    low = dice.randint(-top, 2 * top)
    high = low if dice.random() < exact else low + dice.randint(1, 3)
    return dice.choice([
        ("sum", first, second, low, high), ("less", first, second, low - top, high - top),
        ("less", first, second, -1, 1), ("shade", first, low, low + top), ("shade", first, -3, dice.randint(-1, top)),
    ])


def some_sites(count, *, seed, cells=3, top=4, finds=4, exact=0.6):
    dice = random.Random(seed)
    sites = []
    for _ in range(count):
        names = ["blue", "red", "madder", "weld", "a0"][:dice.randint(2, cells)]
        site = Shades(names, dice.randint(1, top))
        site.take_all([some_find(dice, names, site.top, exact=exact) for _ in range(dice.randint(0, finds))])
        sites.append(site)
    return sites


class Creation(Case):
    def test_attributes(self):
        names = ["red", "blue"]
        shades = Shades(names, 3)
        names.append("weld")
        self.assertIsInstance(shades, Site)
        self.assertEqual((shades.cells, shades.top, shades.stock.names), (("red", "blue"), 3, ("red", "blue")))
        self.assertIs(type(shades.cells), tuple)
        self.assertEqual([shades.stock.shape_of(name).parents for name in shades.cells], [line(3).parents] * 2)
        self.assertEqual((len(shades), list(shades)), (0, []))
        self.assertEqual(Shades(("a",), 8).cells, ("a",))

    def test_without_cells_and_without_finds(self):
        shades = Shades([], 1)
        self.assertEqual((shades.cells, shades.top, len(shades.stock)), ((), 1, 0))
        self.assertEqual(self.check_site(shades, allowed_in(shades)), [()])
        self.refuses(shades, ("shade", "a", 0, 0), BadFind, {"place": 1})
        shades = Shades(["a", "b"], 1)
        self.assertEqual(self.check_site(shades, allowed_in(shades)), [(0, 0), (0, 1), (1, 0), (1, 1)])

    def test_errors_in_their_order(self):
        for names, wrong in (
            (["A"], "A"), (["a", ""], ""), (["a", "b", "a", "B"], "a"), (["a", "a1234567", "b", "b"], "b"),
            (("ok", "123456789"), "123456789"), (["a", "abcdefghi"], "abcdefghi"),
        ):
            self.raises(BadName, {"name": wrong}, Shades, names, 2)
            self.raises(BadName, {"name": wrong}, Shades, names, 0)
        for top in (0, -1, -20000):
            self.raises(BadShape, {"place": 0}, Shades, ["a"], top)
            self.raises(BadShape, {"place": 0}, Shades, [], top)


class Finds(Case):
    def test_sites_with_some_finds(self):
        pasts = []
        for site in some_sites(80, seed=560) + some_sites(40, seed=561, cells=2, top=8, exact=0.2):
            pasts.append(len(self.check_site(site, allowed_in(site))))
        self.assertGreater(pasts.count(0), 10)
        self.assertGreater(len([count for count in pasts if count > 1]), 30)

    def test_bounds(self):
        seen = set()
        for word in ("sum", "less", "shade"):
            for low, high in (
                (0, 0), (2, 2), (-1, -1), (-2, 0), (1, 3), (5, 5), (4, 4), (-9, 9), (7, 20000), (-20000, -9), (3, 20000),
                (-20000, 20000), (-1, 0), (6, 6), (-3, -1),
            ):
                site = Shades(["a", "b"], 3)
                cells = ("b",) if word == "shade" else ("b", "a")
                self.assertEqual(site.take((word, *cells, low, high)), 0)
                seen.add((word, len(self.check_site(site, allowed_in(site)))))
        self.assertTrue({("sum", 0), ("sum", 16), ("less", 0), ("less", 16), ("shade", 0), ("shade", 16)} <= seen)

    def test_less_is_not_turned_around(self):
        site = Shades(["a", "b"], 2)
        site.take(("less", "b", "a", -2, -1))
        self.assertEqual(self.check_site(site, allowed_in(site)), [(1, 0), (2, 0), (2, 1)])

    def test_a_find_twice(self):
        site = Shades(["a", "b"], 2)
        find = ("sum", "a", "b", 2, 2)
        self.assertEqual((site.take(find), site.take(find), list(site)), (0, 1, [find, find]))
        self.check_site(site, allowed_in(site))
        self.assertEqual(site.drop(0), find)
        self.assertEqual(self.check_site(site, allowed_in(site)), [(0, 2), (1, 1), (2, 0)])
        self.raises(BadIndex, {"place": 1}, site.drop, 1)
        self.raises(BadIndex, {"place": -1}, site.bonds_of, -1)
        self.raises(BadRow, {"row": [0, 3]}, site.allows, (0, 3))

    def test_twins(self):
        site = Shades(["a", "b"], 2)
        site.take(("less", "a", "b", 0, 1))
        twin = site.twin()
        self.assertIs(type(twin), Shades)
        self.assertEqual((twin.cells, twin.top), (("a", "b"), 2))
        before = state_of(site)
        twin.drop(0)
        twin.take(("shade", "b", 1, 2))
        self.assertEqual(state_of(site), before)
        self.assertEqual(every_past(twin.family()), [(0, 1), (0, 2), (1, 1), (1, 2), (2, 1), (2, 2)])
        site.take_all([("shade", "a", 0, 0), ("sum", "a", "b", 0, 2)])
        self.assertEqual(len(twin), 1)

    def test_what_is_passed_and_returned_can_be_changed(self):
        site = Shades(["a", "b"], 2)
        finds = [("sum", "a", "b", 2, 2), ("shade", "a", 1, 2)]
        site.take_all(finds)
        before = state_of(site)
        finds.clear()
        site.bonds_of(0).clear()
        site.sources().clear()
        self.assertEqual(state_of(site), before)


class Refusals(Case):
    def setUp(self):
        self.site = Shades(["a", "b"], 2)
        self.site.take_all([("sum", "a", "b", 1, 3), ("shade", "a", 1, 1)])

    def test_words_and_numbers_of_items(self):
        for find in (
            (), ("sum",), ("sum", "a", "b", 0), ("sum", "a", "b", 0, 0, 0), ("less", "a", "b"), ("shade", "a", 0),
            ("shade", "a", 0, 0, 0), ("shade", "a", "b", 0, 0), ("sum", "a", 0, 0), ("dips", "a", 0, 0), (0, "a", 0, 0),
            ("rows", ("a",), ((0,),)), ("bond", ("a", 1)), ("after", "a", "b", 1), (("sum",), "a", "b", 0, 0),
            ("", "a", "b", 0, 0), ("Sum", "a", "b", 0, 0), ("a", "sum", "b", 0, 0),
        ):
            self.refuses(self.site, find, BadFind, {"place": 0})

    def test_cells(self):
        for word in ("sum", "less"):
            for wrong in ("c", "", "A", 0, ("a",), ()):
                self.refuses(self.site, (word, wrong, wrong, "x", "x"), BadFind, {"place": 1})
                self.refuses(self.site, (word, "b", wrong, 1, 0), BadFind, {"place": 2})
            self.refuses(self.site, (word, "b", "b", 1, 0), BadFind, {"place": 2})
        for wrong in ("c", "", 0, ("a",)):
            self.refuses(self.site, ("shade", wrong, 1, 0), BadFind, {"place": 1})

    def test_low_and_high(self):
        for wrong in ("0", "", (0,), ()):
            for find, place in ((("sum", "a", "b"), 3), (("less", "b", "a"), 3), (("shade", "a"), 2)):
                self.refuses(self.site, (*find, wrong, wrong), BadFind, {"place": place})
                self.refuses(self.site, (*find, 0, wrong), BadFind, {"place": place + 1})
        for low, high in ((1, 0), (0, -1), (-1, -2), (20000, -20000), (5, 4)):
            for find, place in ((("sum", "a", "b"), 4), (("less", "b", "a"), 4), (("shade", "a"), 3)):
                self.refuses(self.site, (*find, low, high), BadFind, {"place": place})


if __name__ == "__main__":
    unittest.main()
