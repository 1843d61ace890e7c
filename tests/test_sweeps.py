import unittest

from by_definition import Case, every_past
from test_vats import some_sites, strength

from everypast.errors import UnknownName
from everypast.sweeps import earliest_cuts, latest_cuts, possible_cuts, possible_dips, possible_shades
from everypast.vats import Cuts, Vat

SITES = (
    some_sites(200, seed=610) + some_sites(20, seed=611, cloths=2, size=8, most=999)
    + some_sites(30, seed=612, cloths=4, size=3, drops=4)
)


def without_past():
    cuts = Cuts(Vat([2, 1]), ["a", "b", "c"])
    cuts.take_all([("dips", "b", 2, 2), ("shade", "c", 1, 3)])
    return cuts


class Sweeps(Case):
    def test_some_sites(self):
        seen = {"no past": 0, "past": 0, "falling": 0}
        for cuts in SITES:
            rows = every_past(cuts.family())
            for place, cloth in enumerate(cuts.cloths):
                pairs = [(row[place - 1] if place > 0 else 0, row[place]) for row in rows]
                self.assertEqual(possible_cuts(cuts, cloth), sorted({cut for _, cut in pairs}))
                dips = sorted({cut - before for before, cut in pairs})
                self.assertEqual(possible_dips(cuts, cloth), dips)
                shades = sorted({strength(cuts.vat, cut) - strength(cuts.vat, before) for before, cut in pairs})
                self.assertEqual(possible_shades(cuts, cloth), shades)
                seen["falling"] += bool(dips) and dips[0] < 0
            seen["past" if rows else "no past"] += 1
            if rows:
                self.assertEqual(earliest_cuts(cuts), [min(column) for column in zip(*rows)])
                self.assertEqual(latest_cuts(cuts), [max(column) for column in zip(*rows)])
                self.assertIn(tuple(earliest_cuts(cuts)), rows)
                self.assertIn(tuple(latest_cuts(cuts)), rows)
            else:
                self.raises_no_past(cuts.family(), earliest_cuts, cuts)
                self.raises_no_past(cuts.family(), latest_cuts, cuts)
        self.assertGreater(min(seen.values()), 20)

    def test_the_first_and_the_last_cloth(self):
        cuts = Cuts(Vat([5, 5, 2, 0]), ["a", "b", "c"])
        cuts.take_all([("shade", "a", 3, 7), ("shade", "c", 2, 2), ("dips", "b", 1, 3)])
        self.assertEqual([possible_cuts(cuts, cloth) for cloth in "abc"], [[1], [2], [3, 4]])
        self.assertEqual([possible_dips(cuts, cloth) for cloth in "abc"], [[1], [1], [1, 2]])
        self.assertEqual([possible_shades(cuts, cloth) for cloth in "abc"], [[5], [5], [2]])
        self.assertEqual((earliest_cuts(cuts), latest_cuts(cuts)), ([1, 2, 3], [1, 2, 4]))

    def test_without_finds(self):
        cuts = Cuts(Vat([3, 3]), ["a", "b"])
        cuts.drop(1)
        cuts.drop(0)
        self.assertEqual([possible_cuts(cuts, cloth) for cloth in "ab"], [[0, 1, 2]] * 2)
        self.assertEqual([possible_dips(cuts, cloth) for cloth in "ab"], [[0, 1, 2], [-2, -1, 0, 1, 2]])
        self.assertEqual([possible_shades(cuts, cloth) for cloth in "ab"], [[0, 3, 6], [-6, -3, 0, 3, 6]])
        self.assertEqual((earliest_cuts(cuts), latest_cuts(cuts)), ([0, 0], [2, 2]))

    def test_without_cloths(self):
        cuts = Cuts(Vat([0]), [])
        self.assertEqual((earliest_cuts(cuts), latest_cuts(cuts)), ([], []))

    def test_without_a_past(self):
        cuts = without_past()
        for function in (possible_cuts, possible_dips, possible_shades):
            self.assertEqual([function(cuts, cloth) for cloth in "abc"], [[], [], []])
        self.raises_no_past(cuts.family(), earliest_cuts, cuts)
        self.raises_no_past(cuts.family(), latest_cuts, cuts)

    def test_unknown_names(self):
        for cuts in (SITES[0], without_past(), Cuts(Vat([1]), [])):
            for function in (possible_cuts, possible_dips, possible_shades):
                for name in ("z", "", "A"):
                    self.raises(UnknownName, {"name": name}, function, cuts, name)

    def test_what_is_returned_can_be_changed(self):
        cuts = Cuts(Vat([1]), ["a"])
        for function in (possible_cuts, possible_dips, possible_shades):
            function(cuts, "a").clear()
            self.assertEqual(function(cuts, "a"), [0, 1])
        earliest_cuts(cuts).clear()
        self.assertEqual(earliest_cuts(cuts), [0])
        self.assertEqual(len(cuts), 1)


if __name__ == "__main__":
    unittest.main()
