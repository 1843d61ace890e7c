import random
import unittest

from by_definition import Case, every_row, families_with_past, families_without_past, keeps, row_has, sides
from by_definition import some_families

from everypast.conflicts import conflict, unavoidable
from everypast.families import Family
from everypast.shapes import line, star
from everypast.stocks import Stock


def can_be_kept(family, indexes):
    """Whether some row of the stock keeps all bonds at these indexes."""
    bonds = [family.bonds[at] for at in indexes]
    return any(all(keeps(family.stock, row, bond) for bond in bonds) for row in every_row(family.stock))


class Conflicts(Case):
    def check(self, family):
        found = conflict(family)
        self.assertIs(type(found), list)
        self.assertEqual(found, sorted(set(found)))
        self.assertTrue(all(0 <= at < len(family.bonds) for at in found))
        self.assertFalse(can_be_kept(family, found))
        for left_out in found:
            self.assertTrue(can_be_kept(family, [at for at in found if at != left_out]))
        indexes = list(range(len(family.bonds)))
        expected = [at for at in indexes if can_be_kept(family, indexes[:at] + indexes[at + 1:])]
        self.assertEqual(unavoidable(family), expected)
        self.assertTrue(set(expected) <= set(found))
        return found, expected

    def test_families_without_a_past(self):
        lengths = []
        unavoidables = []
        for family in families_without_past(250, seed=320) + families_without_past(80, seed=321, bonds=16, cells=2):
            found, expected = self.check(family)
            lengths.append(len(found))
            unavoidables.append(len(expected))
        self.assertGreater(len([length for length in lengths if length > 2]), 30)
        self.assertGreater(unavoidables.count(0), 10)
        self.assertGreater(len([count for count in unavoidables if count > 1]), 10)

    def test_families_with_a_past(self):
        for family in families_with_past(80, seed=322):
            self.assertIsNone(conflict(family))
            self.assertIsNone(unavoidable(family))
        self.assertIsNone(conflict(Family(Stock({}), [])))
        self.assertIsNone(unavoidable(Family(Stock({"a": line(3)}), [])))

    def test_equal_and_idle_bonds(self):
        stock = Stock({"a": line(2), "b": line(1)})
        family = Family(stock, [(("a", 1), ("a", -1)), (("a", 1),), (("b", 1),), (("a", -1),), (("a", -1),)])
        found, expected = self.check(family)
        self.assertIn(found, ([1, 3], [1, 4]))
        self.assertEqual(expected, [1])
        twice = Family(stock, [(("a", 1),), (("a", 1),), (("a", -1),), (("a", -1), ("a", -1))])
        self.assertEqual(self.check(twice)[1], [])

    def test_bonds_of_one_side(self):
        family = Family(Stock({"a": star(2)}), [(("a", 1),), (("a", 2),)])
        self.assertEqual(self.check(family), ([0, 1], [0, 1]))
        conflict(family).clear()
        unavoidable(family).clear()
        self.assertEqual(self.check(family), ([0, 1], [0, 1]))

    def test_many_families(self):
        for family in some_families(80, seed=323, cells=4, size=3, bonds=30):
            if conflict(family) is None:
                self.assertTrue(can_be_kept(family, range(len(family.bonds))))
            else:
                self.check(family)

    def test_a_large_family(self):
        # A conflict of many bonds: a leads on through all cells to its opposite, and back.
        names = [f"c{number}" for number in range(16)]
        stock = Stock({name: line(8) for name in names})
        walls = [(name, number) for number in range(1, 9) for name in names]
        onward = [((name, -number), after) for (name, number), after in zip(walls, walls[1:])]
        dice = random.Random(324)
        row = [0] * 16
        had = [side for side in sides(stock) if row_has(stock, row, side)]
        idle = [(dice.choice(had), dice.choice(sides(stock))) for _ in range(1000)]
        family = Family(stock, [*idle, *onward, (walls[0],), (("c15", -8),)])
        found = conflict(family)
        bonds = [family.bonds[at] for at in found]
        self.assertIsNotNone(conflict(Family(stock, bonds)))
        for at in range(0, len(bonds), 9):
            self.assertIsNone(conflict(Family(stock, bonds[:at] + bonds[at + 1:])))
        self.assertTrue(set(unavoidable(family)) <= set(found))


if __name__ == "__main__":
    unittest.main()
