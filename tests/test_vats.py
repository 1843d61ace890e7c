import random
import unittest

from by_definition import Case, every_past, state_of

from everypast.errors import BadCount, BadFind, BadIndex, BadName, BadRow, BadSteps
from everypast.shapes import line
from everypast.sites import Site
from everypast.vats import Cuts, Vat


def strength(vat, dips):
    return sum(vat.steps[:dips])


def allowed_in(cuts):
    """What the finds of a site of cuts name and allow, word by word."""
    every = range(len(cuts.vat.steps) + 1)

    def gain(word, before, cut):
        return cut - before if word == "dips" else strength(cuts.vat, cut) - strength(cuts.vat, before)

    def allowed(find):
        word, cloth, low, high = find
        place = cuts.cloths.index(cloth)
        if place == 0:
            return [cloth], {(cut,) for cut in every if low <= gain(word, 0, cut) <= high}
        rows = {(before, cut) for before in every for cut in every if low <= gain(word, before, cut) <= high}
        return [cuts.cloths[place - 1], cloth], rows
    return allowed


def some_steps(dice, size, most):
    return sorted([dice.randint(0, most) for _ in range(size)], reverse=True)


def some_find(dice, cuts):
    size = cuts.vat.size
    low = dice.randint(-1, 2)
    shade = dice.randint(-2, strength(cuts.vat, size))
    return dice.choice([
        ("dips", dice.choice(cuts.cloths), low, low + dice.randint(0, 2)),
        ("shade", dice.choice(cuts.cloths), shade, shade + dice.randint(0, 3)),
    ])


def some_sites(count, *, seed, cloths=3, size=4, finds=3, most=4, drops=2):
    dice = random.Random(seed)
    sites = []
    for _ in range(count):
        vat = Vat(some_steps(dice, dice.randint(1, size), most))
        cuts = Cuts(vat, ["wool", "silk", "linen", "a0"][:dice.randint(1, cloths)])
        cuts.take_all([some_find(dice, cuts) for _ in range(dice.randint(0, finds))])
        for _ in range(dice.choice([0, 0, drops])):
            if len(cuts) > 0:
                cuts.drop(dice.randrange(len(cuts)))
        sites.append(cuts)
    return sites


class Vats(Case):
    def test_attributes_and_strengths(self):
        for steps in ([5], [0], [999], [5, 3, 3, 0], [2] * 8, [0] * 8, [999] * 8, [9, 8, 7, 6, 5, 4, 3, 2]):
            vat = Vat(steps)
            self.assertEqual((vat.steps, vat.size), (tuple(steps), len(steps)))
            self.assertIs(type(vat.steps), tuple)
            self.assertEqual(Vat(tuple(steps)).steps, tuple(steps))
            self.assertEqual(vat.strength(0), 0)
            self.assertEqual(vat.strength(len(steps)), sum(steps))
            for dips in range(len(steps)):
                self.assertEqual(vat.strength(dips + 1) - vat.strength(dips), steps[dips])
            for dips in (-1, len(steps) + 1, 20000, -20000):
                self.raises(BadCount, {"number": dips}, vat.strength, dips)

    def test_steps_beyond_their_bounds(self):
        for steps in ([1000], [20000, 1000, 999], [1] * 9, [999999999]):
            vat = Vat(steps)
            self.assertEqual((vat.steps, vat.strength(vat.size)), (tuple(steps), sum(steps)))
            self.assertEqual(len(every_past(Cuts(vat, ["a"]).family())), len(steps) + 1)

    def test_later_changes(self):
        steps = [3, 2]
        vat = Vat(steps)
        steps[0] = 9
        steps.append(1)
        self.assertEqual((vat.steps, vat.size, vat.strength(2)), ((3, 2), 2, 5))

    def test_steps_that_are_none(self):
        for steps, place in (
            ([], 0), ((), 0), ([-1], 0), ([3, 4], 1), ([3, 3, 4], 2), ([3, -1], 1), ([0, 0, -1], 2), ([0, 1, -1], 1),
            ([-5, 9], 0), ([5, 4, 3, 2, 1, 0, 1], 6), ([-20000], 0), ([5, 20000, -1], 1),
        ):
            self.raises(BadSteps, {"place": place}, Vat, steps)


class Creation(Case):
    def test_attributes_and_first_finds(self):
        names = ["wool", "silk"]
        vat = Vat([3, 2, 2])
        cuts = Cuts(vat, names)
        names.clear()
        self.assertIsInstance(cuts, Site)
        self.assertEqual((cuts.cloths, cuts.stock.names), (("wool", "silk"), ("wool", "silk")))
        self.assertIs(type(cuts.cloths), tuple)
        self.assertIs(cuts.vat, vat)
        self.assertEqual([cuts.stock.shape_of(name).parents for name in cuts.cloths], [line(3).parents] * 2)
        self.assertEqual(list(cuts), [("dips", "wool", 0, 3), ("dips", "silk", 0, 3)])
        rows = self.check_site(cuts, allowed_in(cuts))
        self.assertEqual(rows, [(cut, later) for cut in range(4) for later in range(cut, 4)])
        self.assertEqual(cuts.bonds_of(0), [])

    def test_without_cloths(self):
        cuts = Cuts(Vat([1]), [])
        self.assertEqual((cuts.cloths, list(cuts)), ((), []))
        self.assertEqual(self.check_site(cuts, allowed_in(cuts)), [()])

    def test_names(self):
        for names, wrong in (
            (["A"], "A"), (["a", ""], ""), (["a", "b", "a", "B"], "a"), (("a", "a"), "a"), (["abcdefghi"], "abcdefghi"),
        ):
            self.raises(BadName, {"name": wrong}, Cuts, Vat([1]), names)

    def test_twins(self):
        cuts = Cuts(Vat([3, 2]), ["a", "b"])
        cuts.drop(0)
        cuts.take(("shade", "b", 2, 2))
        twin = cuts.twin()
        self.assertIs(type(twin), Cuts)
        self.assertEqual((twin.cloths, list(twin)), (("a", "b"), [("dips", "b", 0, 2), ("shade", "b", 2, 2)]))
        self.assertEqual(state_of(twin), state_of(cuts))
        before = state_of(cuts)
        twin.drop(0)
        twin.take_all([("dips", "a", 1, 1), ("dips", "b", -1, 0)])
        self.assertEqual(state_of(cuts), before)
        self.check_site(twin, allowed_in(twin))


class Finds(Case):
    def test_sites_with_some_finds(self):
        pasts = []
        for cuts in some_sites(120, seed=600) + some_sites(20, seed=601, cloths=2, size=8, most=999):
            pasts.append(len(self.check_site(cuts, allowed_in(cuts))))
        self.assertGreater(pasts.count(0), 15)
        self.assertGreater(len([count for count in pasts if count > 1]), 40)

    def test_finds_name_the_cloth_before(self):
        cuts = Cuts(Vat([2, 1, 0]), ["c", "a", "b"])
        cuts.take_all([("shade", "c", 2, 3), ("shade", "a", 1, 1), ("dips", "b", 1, 1)])
        cells = [{side[0] for bond in cuts.bonds_of(place) for side in bond} for place in range(6)]
        self.assertEqual(cells, [set(), {"c", "a"}, {"a", "b"}, {"c"}, {"c", "a"}, {"a", "b"}])
        self.assertEqual(self.check_site(cuts, allowed_in(cuts)), [(1, 2, 3)])

    def test_without_first_finds(self):
        cuts = Cuts(Vat([2, 1]), ["a", "b"])
        self.assertEqual(cuts.drop(1), ("dips", "b", 0, 2))
        self.assertEqual(len(self.check_site(cuts, allowed_in(cuts))), 9)
        cuts.take(("dips", "b", -2, -1))
        self.assertEqual(self.check_site(cuts, allowed_in(cuts)), [(1, 0), (2, 0), (2, 1)])
        cuts.take(("shade", "b", -1, -1))
        self.assertEqual(self.check_site(cuts, allowed_in(cuts)), [(2, 1)])
        cuts.drop(0)
        self.assertEqual(self.check_site(cuts, allowed_in(cuts)), [(2, 1)])
        self.raises(BadIndex, {"place": 2}, cuts.drop, 2)

    def test_steps_of_nothing(self):
        cuts = Cuts(Vat([1, 0, 0]), ["a", "b"])
        cuts.take(("shade", "b", 0, 0))
        self.assertEqual(
            self.check_site(cuts, allowed_in(cuts)), [(0, 0), (1, 1), (1, 2), (1, 3), (2, 2), (2, 3), (3, 3)]
        )

    def test_bounds(self):
        seen = set()
        for cloth in ("a", "b"):
            for word in ("dips", "shade"):
                for low, high in ((0, 0), (2, 2), (-9, 9), (3, 20000), (-20000, -1), (4, 4), (1, 2), (-1, 20000)):
                    cuts = Cuts(Vat([2, 1]), ["a", "b"])
                    self.assertEqual(cuts.take((word, cloth, low, high)), 2)
                    seen.add(len(self.check_site(cuts, allowed_in(cuts))))
        self.assertTrue({0, 6} <= seen)

    def test_a_find_twice(self):
        cuts = Cuts(Vat([2, 1]), ["a"])
        find = ("shade", "a", 2, 9)
        self.assertEqual((cuts.take(find), cuts.take(find), len(cuts)), (1, 2, 3))
        self.assertEqual(self.check_site(cuts, allowed_in(cuts)), [(1,), (2,)])
        self.raises(BadRow, {"row": [3]}, cuts.allows, [3])


class Refusals(Case):
    def setUp(self):
        self.cuts = Cuts(Vat([2, 1]), ["a", "b"])
        self.cuts.take(("shade", "b", 1, 2))

    def test_words_and_numbers_of_items(self):
        for find in (
            (), ("dips",), ("dips", "a", 0), ("dips", "a", 0, 0, 0), ("shade", "a", "b", 0, 0), ("sum", "a", "b", 0, 0),
            ("rows", ("a",), ()), ("bond", ("a", 1)), ("less", "a", "b", 0, 0), (0, "a", 0, 0), (("dips",), "a", 0, 0),
            ("", "a", 0, 0),
        ):
            self.refuses(self.cuts, find, BadFind, {"place": 0})

    def test_items(self):
        for word in ("dips", "shade"):
            for wrong in ("c", "", 0, ("a",), ()):
                self.refuses(self.cuts, (word, wrong, "x", -1), BadFind, {"place": 1})
            for wrong in ("0", "", (0,), ()):
                self.refuses(self.cuts, (word, "b", wrong, wrong), BadFind, {"place": 2})
                self.refuses(self.cuts, (word, "a", 0, wrong), BadFind, {"place": 3})
            for low, high in ((1, 0), (0, -1), (-1, -2), (20000, -20000)):
                self.refuses(self.cuts, (word, "b", low, high), BadFind, {"place": 3})


class Pasts(Case):
    def test_closed_under_the_lesser_and_the_greater_positions(self):
        for cuts in some_sites(60, seed=602):
            rows = every_past(cuts.family())
            for row in rows:
                for other in rows:
                    self.assertIn(tuple(map(min, row, other)), rows)
                    self.assertIn(tuple(map(max, row, other)), rows)


if __name__ == "__main__":
    unittest.main()
