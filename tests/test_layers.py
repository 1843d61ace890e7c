import random
import unittest

from by_definition import Case, every_past, row_has, state_of

from everypast.errors import BadFind, BadIndex, BadName, BadRow, BadShape
from everypast.layers import Layers
from everypast.shapes import line
from everypast.sites import Site


def allowed_in(layers):
    """What the finds of a site of layers name and allow, word by word."""
    every = range(layers.last + 1)

    def allowed(find):
        word, first = find[:2]
        if word in ("from", "by", "not"):
            fits = {"from": lambda v: v >= find[2], "by": lambda v: v <= find[2], "not": lambda v: v != find[2]}
            return [first], {(v,) for v in every if fits[word](v)}
        pairs = {(v, w) for v in every for w in every}
        if word == "after":
            pairs = {(v, w) for v, w in pairs if v >= w + find[3]}
        if word == "level":
            pairs = {(v, w) for v, w in pairs if v == w}
        if word == "rise":
            pairs = {(v, w) for v, w in pairs if v >= find[3][w]}
        return [first, find[2]], pairs
    return allowed


def some_find(dice, deeds, last):
    first, second = dice.sample(deeds, 2)
    floors = tuple(sorted(dice.randint(0, last + 1) for _ in range(last + 1)))
    return dice.choice([
        ("after", first, second, dice.randint(-last - 1, last)), ("after", first, second, dice.randint(-1, 1)),
        ("level", first, second), ("from", first, dice.randint(0, last)), ("by", first, dice.randint(0, last)),
        ("not", first, dice.randint(0, last)), ("rise", first, second, floors), ("hidden", first, second),
    ])


def some_sites(count, *, seed, deeds=3, last=4, finds=5):
    dice = random.Random(seed)
    sites = []
    for _ in range(count):
        names = ["pit", "oven", "well", "a0"][:dice.randint(2, deeds)]
        site = Layers(names, dice.randint(1, last))
        site.take_all([some_find(dice, names, site.last) for _ in range(dice.randint(0, finds))])
        sites.append(site)
    return sites


class Creation(Case):
    def test_attributes(self):
        names = ["pit", "oven"]
        layers = Layers(names, 3)
        names.append("well")
        self.assertIsInstance(layers, Site)
        self.assertEqual((layers.deeds, layers.last, layers.stock.names), (("pit", "oven"), 3, ("pit", "oven")))
        self.assertIs(type(layers.deeds), tuple)
        self.assertEqual([layers.stock.shape_of(name).parents for name in layers.deeds], [line(3).parents] * 2)
        self.assertEqual((len(layers), list(layers)), (0, []))
        self.assertEqual(Layers(("a",), 8).deeds, ("a",))

    def test_without_deeds(self):
        layers = Layers([], 1)
        self.assertEqual((layers.deeds, layers.last, len(layers.stock)), ((), 1, 0))
        self.assertIs(layers.allows([]), True)
        self.assertEqual(every_past(layers.family()), [()])

    def test_errors(self):
        for deeds, name in ((["A"], "A"), (["pit", ""], ""), (["a", "b", "a", "B"], "a"), (["a", "a"], "a")):
            for last in (1, 0, -1):
                self.raises(BadName, {"name": name}, Layers, deeds, last)
                self.raises(BadName, {"name": name}, Layers, tuple(deeds), last)
        for last in (0, -1, -9):
            self.raises(BadShape, {"place": 0}, Layers, ["a"], last)
            self.raises(BadShape, {"place": 0}, Layers, [], last)


class Finds(Case):
    def test_all_kinds(self):
        layers = Layers(["a", "b"], 3)
        finds = [("after", "a", "b", gap) for gap in (-20, -4, -3, -2, -1, 0, 1, 2, 3, 4, 20)]
        finds += [("level", "a", "b"), ("level", "b", "a"), ("hidden", "b", "a")]
        finds += [(word, "b", layer) for word in ("from", "by", "not") for layer in range(4)]
        finds += [
            ("rise", "b", "a", floors)
            for floors in ((0, 0, 0, 0), (4, 4, 4, 4), (0, 1, 2, 3), (0, 0, 3, 4), (1, 1, 2, 2), (0, 4, 4, 4))
        ]
        for find in finds:
            site = layers.twin()
            self.assertEqual(site.take(find), 0)
            self.assertEqual(list(site), [find])
            self.check_site(site, allowed_in(site))

    def test_what_they_mean(self):
        for find, rows in (
            (("after", "a", "b", 1), [[1, 0], [2, 0], [2, 1]]), (("after", "a", "b", -2), None),
            (("after", "a", "b", 3), []), (("level", "a", "b"), [[0, 0], [1, 1], [2, 2]]),
            (("from", "b", 2), [[0, 2], [1, 2], [2, 2]]), (("by", "a", 0), [[0, 0], [0, 1], [0, 2]]),
            (("not", "a", 1), [[0, 0], [0, 1], [0, 2], [2, 0], [2, 1], [2, 2]]), (("hidden", "b", "a"), None),
            (("rise", "a", "b", (1, 2, 3)), [[1, 0], [2, 0], [2, 1]]),
        ):
            site = Layers(["a", "b"], 2)
            site.take(find)
            every = [[v, w] for v in range(3) for w in range(3)]
            found = [row for row in every if site.allows(row)]
            self.assertEqual(found, every if rows is None else rows, find)
            self.assertEqual(site.bonds_of(0) == [], rows is None)

    def test_sites_with_some_finds(self):
        pasts = []
        for site in some_sites(60, seed=410) + some_sites(15, seed=411, deeds=2, last=8):
            rows = self.check_site(site, allowed_in(site))
            pasts.append(len(rows))
            for bond in site.family():
                ups = [side for side in bond if side[1] > 0]
                self.assertTrue(len(bond) == 1 or len(ups) == 1, bond)
            for row in rows[:6]:
                for other in rows[-6:]:
                    self.assertIn(tuple(map(min, row, other)), rows)
                    self.assertIn(tuple(map(max, row, other)), rows)
        self.assertGreater(pasts.count(0), 5)
        self.assertGreater(len([count for count in pasts if count > 1]), 20)

    def test_dropping_and_twins(self):
        finds = [("hidden", "a", "b"), ("after", "a", "b", 1), ("not", "b", 1)]
        site = Layers(["a", "b"], 3)
        site.take_all(finds)
        twin = site.twin()
        self.assertIs(type(twin), Layers)
        self.assertEqual((twin.deeds, twin.last, state_of(twin)), (site.deeds, site.last, state_of(site)))
        self.assertEqual((twin.drop(0), twin.drop(1)), (finds[0], finds[2]))
        self.assertEqual((list(site), list(twin)), (finds, [finds[1]]))
        self.check_site(twin, allowed_in(twin))
        self.check_site(site, allowed_in(site))
        self.raises(BadIndex, {"place": 1}, twin.drop, 1)
        self.raises(BadRow, {"row": [0, 4]}, site.allows, [0, 4])
        self.assertEqual(twin.take(finds[2]), 1)
        self.assertTrue(row_has(site.stock, every_past(site.family())[0], ("a", 1)))


class Refusals(Case):
    def setUp(self):
        self.site = Layers(["a", "b", "c"], 2)
        self.site.take_all([("after", "a", "b", 1), ("hidden", "b", "c")])

    def test_words_and_numbers_of_items(self):
        for find in (
            (), ("after",), ("after", "a", "b"), ("after", "a", "b", 1, 1), ("level", "a"), ("level", "a", "b", 0),
            ("from", "a"), ("from", "a", 1, 1), ("rise", "a", "b"), ("hidden", "a"), ("hidden", "a", "b", "c"),
            ("rows", ("a",), ((0,),)), ("bond", ("a", 1)), ("copy", "a", "b", 0, 0), ("same", "a", "b"), (1, "a", "b"),
            ("before", "a", "b", 1), ("", "a", "b"), (("level",), "a", "b"), ("a", "level", "b"), ("not",), (0,),
        ):
            self.refuses(self.site, find, BadFind, {"place": 0})

    def test_deeds(self):
        for wrong in ("z", "", 0, ("a",), (), "A", 1):
            for find in (
                ("after", wrong, "z", "x"), ("level", wrong, wrong), ("from", wrong, 9), ("by", wrong, 0),
                ("not", wrong, -1), ("rise", wrong, "b", ()), ("hidden", wrong, "b"),
            ):
                self.refuses(self.site, find, BadFind, {"place": 1})
            for find in (
                ("after", "a", wrong, "x"), ("level", "a", wrong), ("rise", "b", wrong, ()), ("hidden", "c", wrong),
            ):
                self.refuses(self.site, find, BadFind, {"place": 2})
        for find in (("after", "a", "a", 1), ("level", "b", "b"), ("rise", "a", "a", 1), ("hidden", "c", "c")):
            self.refuses(self.site, find, BadFind, {"place": 2})

    def test_gaps_and_layers(self):
        for wrong in ("1", "", (1,), ()):
            self.refuses(self.site, ("after", "a", "b", wrong), BadFind, {"place": 3})
        for wrong in (-1, 3, "0", (0,), ()):
            for word in ("from", "by", "not"):
                self.refuses(self.site, (word, "a", wrong), BadFind, {"place": 2})

    def test_floors(self):
        for wrong in (
            (), (0, 0), (0, 0, 0, 0), (1, 0, 0), (0, 2, 1), (-1, 0, 0), (0, 0, 4), (0, "0", 0), ("0", 0, 0), "000", 0,
            (0, 0, (0,)), ((0, 0, 0),), (4, 4, 4), ("a", "b", "c"),
        ):
            self.refuses(self.site, ("rise", "a", "b", wrong), BadFind, {"place": 3})
        for floors in ((0, 0, 0), (3, 3, 3), (0, 0, 3), (0, 1, 2)):
            site = self.site.twin()
            self.assertEqual(site.take(("rise", "a", "b", floors)), 2)
            self.check_site(site, allowed_in(site))


if __name__ == "__main__":
    unittest.main()
