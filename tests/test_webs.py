import itertools
import random
import unittest

from by_definition import Case
from test_shades import some_sites

from everypast.errors import UnknownName
from everypast.shades import Shades
from everypast.webs import account, odd_walk, web_of, webs

SITES = (
    some_sites(300, seed=570, cells=4, top=4, finds=5, exact=0.9) + some_sites(150, seed=574, top=8, exact=1)
    + some_sites(60, seed=571, cells=5, top=2, finds=7, exact=0.9) + some_sites(60, seed=572, finds=8)
)


def exact_places(shades):
    return [place for place, find in enumerate(shades) if find[0] != "shade" and find[-2] == find[-1]]


def web_by_definition(shades, cell):
    """The cells that sequences of exact finds reach, in the order of the site."""
    web = {cell}
    while True:
        more = {
            name
            for place in exact_places(shades)
            for name in list(shades)[place][1:3]
            if web & set(list(shades)[place][1:3])
        }
        if more <= web:
            return [name for name in shades.cells if name in web]
        web |= more


def finds_within(shades, web):
    return [list(shades)[place] for place in exact_places(shades) if list(shades)[place][1] in web]


def is_odd(shades, web):
    """Whether no choice of two colours for the cells changes the colour along exactly the "sum" finds.

    This is so exactly if some closed walk has an odd number of them.
    """
    for colours in itertools.product([0, 1], repeat=len(web)):
        of = dict(zip(web, colours))
        if all((of[find[1]] != of[find[2]]) == (find[0] == "sum") for find in finds_within(shades, web)):
            return False
    return True


def holds(find, positions):
    word, first, second, number, _ = find
    sign = 1 if word == "sum" else -1
    return positions[first] + sign * positions[second] == number


def solutions(shades, web):
    found = []
    for row in itertools.product(range(shades.top + 1), repeat=len(web)):
        if all(holds(find, dict(zip(web, row))) for find in finds_within(shades, web)):
            found.append(list(row))
    return found


class Webs(Case):
    def check_walk(self, shades, walk, web):
        self.assertIs(type(walk), tuple)
        cells, places = walk
        self.assertEqual((type(cells), type(places)), (list, list))
        self.assertEqual((cells[0], len(cells)), (cells[-1], len(places) + 1))
        self.assertGreaterEqual(len(places), 2)
        self.assertTrue(set(cells) <= set(web))
        for at, place in enumerate(places):
            self.assertIn(place, exact_places(shades))
            self.assertEqual(set(list(shades)[place][1:3]), {cells[at], cells[at + 1]})
        self.assertEqual(len([place for place in places if list(shades)[place][0] == "sum"]) % 2, 1)

    def check_account(self, shades, cell):
        """Compare the account of the web with all its solutions, and return its word and whether the web is odd."""
        web = web_by_definition(shades, cell)
        odd = is_odd(shades, web)
        found = account(shades, cell)
        rows = solutions(shades, web)
        self.assertEqual(found[1], web)
        self.assertIs(type(found), tuple)
        if not rows:
            self.assertEqual(found, ("none", web))
        elif odd:
            self.assertEqual(found, ("point", web, rows[0]))
            self.assertEqual(len(rows), 1)
        else:
            word, _, bases, slopes, low, high = found
            self.assertEqual((word, bases[0], slopes[0]), ("line", 0, 1))
            self.assertTrue(set(slopes) <= {1, -1})
            self.assertEqual((type(bases), type(slopes), len(bases), len(slopes)), (list, list, len(web), len(web)))
            for t in range(-9, 10):
                row = {name: base + slope * t for name, base, slope in zip(web, bases, slopes)}
                self.assertTrue(all(holds(find, row) for find in finds_within(shades, web)))
            self.assertEqual(
                [[base + slope * t for base, slope in zip(bases, slopes)] for t in range(low, high + 1)], rows
            )
        return found[0], odd

    def test_some_sites(self):
        seen = {}
        for shades in SITES:
            found = []
            for cell in shades.cells:
                web = web_by_definition(shades, cell)
                self.assertEqual(web_of(shades, cell), web)
                if web[0] == cell:
                    found.append(web)
                walk = odd_walk(shades, cell)
                self.assertEqual(walk is not None, is_odd(shades, web))
                if walk is not None:
                    self.check_walk(shades, walk, web)
                answer = self.check_account(shades, cell)
                seen[answer] = seen.get(answer, 0) + 1
            self.assertEqual(webs(shades), found)
        self.assertEqual(set(seen), {("line", False), ("none", False), ("point", True), ("none", True)})
        self.assertGreater(min(seen.values()), 15)

    def test_without_cells(self):
        self.assertEqual(webs(Shades([], 2)), [])

    def test_a_cell_that_hangs_together_with_no_other(self):
        shades = Shades(["a", "b", "c"], 3)
        shades.take_all([("sum", "a", "c", 3, 3), ("less", "a", "b", 0, 1), ("shade", "b", 2, 2)])
        self.assertEqual((web_of(shades, "b"), web_of(shades, "c")), (["b"], ["a", "c"]))
        self.assertEqual(webs(shades), [["a", "c"], ["b"]])
        self.assertIsNone(odd_walk(shades, "b"))
        # Neither "shade" finds nor finds that are not exact are regarded.
        self.assertEqual(account(shades, "b"), ("line", ["b"], [0], [1], 0, 3))
        self.assertEqual(account(shades, "c"), ("line", ["a", "c"], [0, 3], [1, -1], 0, 3))

    def test_finds_that_are_not_exact_join_no_cells(self):
        shades = Shades(["a", "b"], 2)
        shades.take_all([("sum", "a", "b", 1, 2), ("less", "a", "b", -1, 0), ("shade", "a", 1, 1)])
        self.assertEqual(webs(shades), [["a"], ["b"]])
        shades.take(("less", "b", "a", 2, 2))
        self.assertEqual(webs(shades), [["a", "b"]])
        self.assertEqual(account(shades, "b"), ("line", ["a", "b"], [0, 2], [1, 1], 0, 0))

    def test_closed_walks_that_use_finds_twice(self):
        shades = Shades(["a", "b", "c", "d"], 4)
        shades.take_all([("sum", "a", "b", 4, 4), ("less", "b", "c", 1, 1)])
        # Back and forth along these finds there are closed walks, but all of them are even.
        self.assertIsNone(odd_walk(shades, "a"))
        shades.take_all([("sum", "b", "d", 5, 5), ("sum", "c", "d", 4, 4), ("sum", "b", "c", 5, 5)])
        for cell in shades.cells:
            walk = odd_walk(shades, cell)
            self.check_walk(shades, walk, ["a", "b", "c", "d"])
        self.assertEqual(account(shades, "a"), ("point", ["a", "b", "c", "d"], [1, 3, 2, 2]))

    def test_two_finds_for_the_same_cells(self):
        shades = Shades(["a", "b"], 4)
        shades.take_all([("sum", "a", "b", 4, 4), ("sum", "b", "a", 4, 4)])
        self.assertIsNone(odd_walk(shades, "a"))
        self.assertEqual(account(shades, "b"), ("line", ["a", "b"], [0, 4], [1, -1], 0, 4))
        shades.take(("less", "a", "b", 2, 2))
        self.check_walk(shades, odd_walk(shades, "b"), ["a", "b"])
        self.assertEqual(account(shades, "b"), ("point", ["a", "b"], [3, 1]))
        shades.take(("sum", "a", "b", 3, 3))
        self.assertEqual(account(shades, "b"), ("none", ["a", "b"]))

    def test_odd_webs_without_a_solution(self):
        for low, other in ((4, 1), (4, 6), (9, 1), (-1, 1), (0, 2), (8, 2)):
            shades = Shades(["a", "b"], 4)
            shades.take_all([("sum", "a", "b", low, low), ("less", "a", "b", other, other)])
            self.check_walk(shades, odd_walk(shades, "a"), ["a", "b"])
            # Not whole, or beyond the line on either side.
            self.assertEqual(account(shades, "a"), ("none", ["a", "b"]))
            self.check_account(shades, "b")

    def test_even_webs_with_one_solution_and_with_none(self):
        for low, expected in (
            (0, ("line", ["a", "b"], [0, 0], [1, -1], 0, 0)), (8, ("line", ["a", "b"], [0, 8], [1, -1], 4, 4)),
            (3, ("line", ["a", "b"], [0, 3], [1, -1], 0, 3)), (6, ("line", ["a", "b"], [0, 6], [1, -1], 2, 4)),
            (-1, ("none", ["a", "b"])), (9, ("none", ["a", "b"])), (20000, ("none", ["a", "b"])),
        ):
            shades = Shades(["a", "b"], 4)
            shades.take(("sum", "b", "a", low, low))
            self.assertEqual(account(shades, "b"), expected)
            self.check_account(shades, "a")
        shades = Shades(["a", "b", "c"], 4)
        shades.take_all([("less", "a", "b", 1, 1), ("less", "b", "c", 1, 1), ("less", "c", "a", 1, 1)])
        self.assertIsNone(odd_walk(shades, "c"))
        self.assertEqual(account(shades, "c"), ("none", ["a", "b", "c"]))

    def test_what_is_returned_can_be_changed(self):
        shades = Shades(["a", "b"], 2)
        shades.take_all([("sum", "a", "b", 2, 2), ("less", "a", "b", 0, 0)])
        for function in (web_of, odd_walk, account):
            expected = repr(function(shades, "a"))
            for part in [function(shades, "a"), *function(shades, "a")]:
                if isinstance(part, list):
                    part.clear()
            self.assertEqual(repr(function(shades, "a")), expected)
        webs(shades)[0].clear()
        self.assertEqual(webs(shades), [["a", "b"]])
        self.assertEqual(len(shades), 2)

    def test_unknown_names(self):
        for function in (web_of, odd_walk, account):
            for name in ("c", "", "A"):
                self.raises(UnknownName, {"name": name}, function, SITES[0], name)
            self.raises(UnknownName, {"name": "a"}, function, Shades([], 1), "a")

    def test_many_finds(self):
        dice = random.Random(573)
        cells = ["a", "b", "c", "d", "e", "f"]
        for _ in range(10):
            truth = {cell: dice.randint(0, 8) for cell in cells}
            shades = Shades(cells, 8)
            for first, second in zip(cells, cells[1:] + cells[:1]):
                number = truth[first] - truth[second]
                shades.take(("less", first, second, number, number))
            word, web, bases, slopes, low, high = account(shades, "d")
            self.assertEqual((word, web, slopes), ("line", cells, [1] * 6))
            self.assertEqual((low, high), (truth["a"] - min(truth.values()), truth["a"] + 8 - max(truth.values())))
            self.assertEqual([base + truth["a"] for base in bases], [truth[cell] for cell in cells])
            shades.take(("sum", "c", "f", truth["c"] + truth["f"], truth["c"] + truth["f"]))
            self.assertEqual(account(shades, "d"), ("point", cells, [truth[cell] for cell in cells]))


if __name__ == "__main__":
    unittest.main()
