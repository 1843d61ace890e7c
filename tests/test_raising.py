import unittest

from by_definition import Case, every_past, is_chain, open_sides, row_has, sides, ties
from test_layers import some_sites

from everypast.errors import BadPosition, UnknownName
from everypast.layers import Layers
from everypast.raising import conflict_chain, earliest, generators, latest, least_with

SITES = (
    some_sites(150, seed=420, finds=4) + some_sites(60, seed=421, deeds=4, last=2) + some_sites(10, seed=422, last=8)
)


def least(rows):
    """The row of the least positions of some rows."""
    return [min(column) for column in zip(*rows)]


def without_past():
    site = Layers(["a", "b"], 2)
    site.take_all([("after", "a", "b", 1), ("after", "b", "a", 0)])
    return site


class Raising(Case):
    def setUp(self):
        self.whole = [(site, every_past(site.family())) for site in SITES if every_past(site.family())]
        self.broken = [site for site in SITES if not every_past(site.family())]
        self.assertGreater(len(self.whole), 100)
        self.assertGreater(len(self.broken), 20)

    def test_earliest_and_latest(self):
        for site, rows in self.whole:
            self.assertEqual(earliest(site), least(rows))
            self.assertIn(tuple(earliest(site)), rows)
            self.assertEqual(latest(site), [max(column) for column in zip(*rows)])
            self.assertIn(tuple(latest(site)), rows)

    def test_least_pasts(self):
        seen = {True: 0, False: 0}
        for site, rows in self.whole:
            for at, deed in enumerate(site.deeds):
                for layer in range(site.last + 1):
                    fitting = [row for row in rows if row[at] >= layer]
                    expected = least(fitting) if fitting else None
                    self.assertEqual(least_with(site, deed, layer), expected)
                    seen[expected is None] += 1
                    if fitting:
                        self.assertIn(tuple(expected), rows)
        self.assertGreater(min(seen.values()), 100)

    def test_generators(self):
        for site, rows in self.whole:
            family = site.family()
            ups = [side for side in open_sides(family) if side[1] > 0]
            expected = {tuple(least([row for row in rows if row_has(site.stock, row, side)])) for side in ups}
            found = generators(site)
            self.assertEqual(found, [list(row) for row in sorted(expected)])
            self.assertEqual(len(found), len(ties(family)))
            lowest = least(rows)
            for row in rows:
                below = [lowest] + [one for one in found if all(x <= y for x, y in zip(one, row))]
                self.assertEqual([max(column) for column in zip(*below)], list(row))

    def test_conflict_chains(self):
        lengths = []
        for site, _ in self.whole:
            self.assertIsNone(conflict_chain(site))
        for site in self.broken + [without_past()]:
            family = site.family()
            path = conflict_chain(site)
            self.assertTrue(is_chain(family, path, path[0][0], path[0][-1]))
            self.assertTrue(all(number > 0 for _, number in path[0]))
            bonds = list(family)
            self.assertIn((path[0][0],), bonds)
            cell, number = path[0][-1]
            self.assertIn(((cell, -number),), bonds)
            lengths.append(len(path[0]))
        self.assertGreater(len([length for length in lengths if length > 2]), 5)

    def test_conflict_chains_of_one_side_and_of_impossible_finds(self):
        site = Layers(["a"], 1)
        site.take_all([("from", "a", 1), ("by", "a", 0)])
        self.assertEqual(conflict_chain(site), ([("a", 1)], []))
        conflict_chain(site)[0].clear()
        self.assertEqual(conflict_chain(site), ([("a", 1)], []))
        site = Layers(["a", "b"], 2)
        site.take(("after", "a", "b", 3))
        path = conflict_chain(site)
        self.assertEqual([side[1] for side in path[0]], [2, 1])

    def test_chains_that_would_turn_down(self):
        # A shortest chain from u to g leads down from x to v: it is none of the chains that are asked for.
        for deeds in ("ugxv", "vuxg", "guvx", "xvgu"):
            site = Layers(list(deeds), 1)
            site.take_all([
                ("from", "u", 1), ("from", "v", 1), ("by", "g", 0), ("by", "x", 0), ("after", "x", "u", 0),
                ("after", "g", "v", 0), ("after", "x", "v", 0),
            ])
            path = conflict_chain(site)
            self.assertTrue(is_chain(site.family(), path, path[0][0], path[0][-1]))
            self.assertIn([cell for cell, _ in path[0]], (["u", "x"], ["v", "g"], ["v", "x"]))
            self.assertTrue(all(number == 1 for _, number in path[0]))

    def test_a_site_with_one_past_and_without_finds(self):
        site = Layers(["a", "b"], 2)
        self.assertEqual((earliest(site), latest(site)), ([0, 0], [2, 2]))
        self.assertEqual(generators(site), [[0, 1], [0, 2], [1, 0], [2, 0]])
        self.assertIsNone(conflict_chain(site))
        site.take_all([("after", "a", "b", 1), ("from", "b", 1)])
        self.assertEqual((earliest(site), latest(site), generators(site)), ([2, 1], [2, 1], []))
        # A side that every past has: the least past is the earliest one.
        self.assertEqual([least_with(site, "a", layer) for layer in range(3)], [[2, 1]] * 3)
        self.assertEqual([least_with(site, "b", layer) for layer in range(3)], [[2, 1], [2, 1], None])
        empty = Layers([], 3)
        self.assertEqual((earliest(empty), latest(empty), generators(empty)), ([], [], []))

    def test_errors_in_their_order(self):
        for site in self.broken[:20] + [without_past()]:
            family = site.family()
            self.raises_no_past(family, earliest, site)
            self.raises_no_past(family, latest, site)
            self.raises_no_past(family, generators, site)
            for layer in range(site.last + 1):
                self.raises_no_past(family, least_with, site, site.deeds[1], layer)
        for site in (Layers(["a", "b"], 2), without_past()):
            for layer in (0, 5, -1):
                self.raises(UnknownName, {"name": "c"}, least_with, site, "c", layer)
            for layer in (-1, 3, 99):
                self.raises(BadPosition, {"position": layer}, least_with, site, "b", layer)

    def test_rows_are_new_and_sites_stay(self):
        site = Layers(["a", "b"], 2)
        site.take(("after", "a", "b", 1))
        for _ in range(2):
            for found, row in (
                (earliest(site), [1, 0]), (latest(site), [2, 1]), (least_with(site, "b", 1), [2, 1]),
                (generators(site)[1], [2, 1]),
            ):
                self.assertEqual(found, row)
                found.clear()
            generators(site).clear()
        self.assertEqual(list(site), [("after", "a", "b", 1)])

    def test_sides_of_the_earliest_and_the_latest_past(self):
        for site, rows in self.whole:
            for side in sides(site.stock):
                certain = all(row_has(site.stock, row, side) for row in rows)
                row = earliest(site) if side[1] > 0 else latest(site)
                self.assertIs(row_has(site.stock, row, side), certain)


if __name__ == "__main__":
    unittest.main()
