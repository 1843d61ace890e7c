import unittest

from by_definition import Case, every_past, open_sides, state_of
from test_layers import some_sites
from test_raising import without_past

from everypast.errors import BadIndex, BadSign, UnknownName
from everypast.layers import Layers
from everypast.orders import hidden_marks, mark_yields, order, signs, with_mark

SITES = some_sites(150, seed=430) + some_sites(60, seed=431, deeds=4, last=2)
WORDS = {
    (-1,): "before", (0,): "level", (1,): "after", (-1, 0): "not after", (0, 1): "not before", (-1, 1): "unlike",
    (-1, 0, 1): "open",
}


def signs_of(site, first, second):
    at, of = site.deeds.index(first), site.deeds.index(second)
    return sorted({(row[at] > row[of]) - (row[at] < row[of]) for row in every_past(site.family())})


def replaced(site, place, find):
    """A new site with another find at this index."""
    other = Layers(site.deeds, site.last)
    other.take_all([find if at == place else one for at, one in enumerate(site)])
    return other


def shown(find, sign):
    _, first, second = find
    return {-1: ("after", second, first, 1), 0: ("level", first, second), 1: ("after", first, second, 1)}[sign]


class Orders(Case):
    def test_signs_and_orders(self):
        seen = set()
        for site in SITES:
            if not every_past(site.family()):
                continue
            for first in site.deeds:
                for second in site.deeds:
                    expected = signs_of(site, first, second)
                    self.assertEqual(signs(site, first, second), expected)
                    self.assertEqual(order(site, first, second), WORDS[tuple(expected)])
                    seen.add(order(site, first, second))
        self.assertLessEqual(set(WORDS.values()) - {"unlike"}, seen)

    def test_all_words(self):
        for finds, word in (
            ([("after", "b", "a", 1)], "before"), ([("level", "a", "b")], "level"), ([("after", "a", "b", 2)], "after"),
            ([("after", "b", "a", 0)], "not after"), ([("after", "a", "b", 0)], "not before"), ([], "open"),
            ([("not", "a", 1), ("from", "b", 1), ("by", "b", 1)], "unlike"),
        ):
            site = Layers(["a", "b"], 2)
            site.take_all(finds)
            self.assertEqual(order(site, "a", "b"), word)
            self.assertEqual((order(site, "b", "b"), signs(site, "b", "b")), ("level", [0]))
            signs(site, "a", "b").clear()
            self.assertEqual(order(site, "a", "b"), word)

    def test_errors_in_their_order(self):
        for site in (Layers(["a", "b"], 1), without_past()):
            for function in (signs, order):
                self.raises(UnknownName, {"name": "c"}, function, site, "c", "d")
                self.raises(UnknownName, {"name": "d"}, function, site, "a", "d")
                self.raises(UnknownName, {"name": ""}, function, site, "", "")
        broken = [site for site in SITES if not every_past(site.family())]
        self.assertGreater(len(broken), 20)
        for site in broken:
            for function in (signs, order):
                self.raises_no_past(site.family(), function, site, site.deeds[0], site.deeds[1])
                self.raises_no_past(site.family(), function, site, site.deeds[0], site.deeds[0])


class Marks(Case):
    def test_hidden_marks(self):
        for site in SITES:
            expected = [place for place, find in enumerate(site) if find[0] == "hidden"]
            self.assertEqual(hidden_marks(site), expected)
        hidden_marks(SITES[0]).clear()
        self.assertEqual(hidden_marks(Layers(["a"], 1)), [])

    def test_marks_that_are_shown(self):
        asked = 0
        for site in SITES:
            for place, find in enumerate(site):
                for sign in (-1, 0, 1):
                    if find[0] != "hidden":
                        self.raises(BadIndex, {"place": place}, with_mark, site, place, sign)
                        continue
                    before = state_of(site)
                    other = with_mark(site, place, sign)
                    self.assertIs(type(other), Layers)
                    self.assertEqual((other.deeds, other.last), (site.deeds, site.last))
                    self.assertEqual(state_of(other), state_of(replaced(site, place, shown(find, sign))))
                    other.drop(0)
                    self.assertEqual(state_of(site), before)
                    asked += 1
        self.assertGreater(asked, 100)

    def test_mark_yields(self):
        asked = 0
        for site in SITES:
            for place in hidden_marks(site):
                if not every_past(site.family()):
                    self.raises_no_past(site.family(), mark_yields, site, place)
                    continue
                _, first, second = list(site)[place]
                before = open_sides(site.family())
                expected = []
                for sign in signs_of(site, first, second):
                    after = open_sides(replaced(site, place, shown(list(site)[place], sign)).family())
                    lost = {(cell, abs(number)) for cell, number in before if (cell, number) not in after}
                    expected.append((sign, len(lost)))
                self.assertEqual(mark_yields(site, place), expected)
                asked += len(expected)
        self.assertGreater(asked, 50)

    def test_two_marks_together(self):
        site = Layers(["a", "b", "c"], 2)
        site.take_all([("hidden", "a", "b"), ("by", "c", 2), ("hidden", "b", "c")])
        self.assertEqual(hidden_marks(site), [0, 2])
        self.assertEqual(mark_yields(site, 0), [(-1, 2), (0, 0), (1, 2)])
        both = with_mark(with_mark(site, 0, 1), 2, 1)
        self.assertEqual(list(both), [("after", "a", "b", 1), ("by", "c", 2), ("after", "b", "c", 1)])
        self.assertEqual(order(both, "a", "c"), "after")
        self.assertEqual(order(with_mark(site, 0, 1), "a", "c"), "open")
        self.assertEqual(list(with_mark(site, 2, -1))[2], ("after", "c", "b", 1))
        self.assertEqual(hidden_marks(site), [0, 2])
        mark_yields(site, 0).clear()
        self.assertEqual(len(mark_yields(site, 0)), 3)

    def test_errors_in_their_order(self):
        broken = without_past()
        broken.take(("hidden", "a", "b"))
        whole = Layers(["a", "b"], 2)
        whole.take_all([("level", "a", "b"), ("by", "a", 1), ("hidden", "a", "b")])
        for site in (whole, broken):
            for place in (-1, 0, 1, 3, 50):
                self.raises(BadIndex, {"place": place}, mark_yields, site, place)
                self.raises(BadIndex, {"place": place}, with_mark, site, place, 5)
            for sign in (-2, 2, 7):
                self.raises(BadSign, {"number": sign}, with_mark, site, 2, sign)
        self.raises_no_past(broken.family(), mark_yields, broken, 2)
        # Showing a mark needs no past.
        self.assertEqual(list(with_mark(broken, 2, 0))[2], ("level", "a", "b"))
        self.assertEqual(mark_yields(whole, 2), [(0, 0)])


if __name__ == "__main__":
    unittest.main()
