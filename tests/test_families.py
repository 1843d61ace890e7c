import itertools
import random
import unittest

from by_definition import Case, every_past, every_row, families_with_past, keeps, middle_of_rows, some_families

from everypast.errors import BadBond, BadIndex
from everypast.families import Family
from everypast.shapes import line, star
from everypast.stocks import Stock

WRONG = (
    (), (("a", 1), ("a", 1), ("a", 1)), (("z", 1),), (("a", 0),), (("a", 2),), (("a", -2), ("a", 1)),
    (("a", 1), ("b", 3)), (("b", -3), ("a", 1)), (("a", 1), ("", 1)),
)


class Families(Case):
    def test_attributes(self):
        stock = Stock({"a": line(1), "b": star(2)})
        bonds = [(("b", 2), ("a", 1)), (("a", -1),), (("a", -1),), (("b", 1), ("b", 1)), (("b", 1), ("b", -1))]
        family = Family(stock, bonds)
        self.assertIs(family.stock, stock)
        self.assertEqual(family.bonds, tuple(bonds))
        self.assertIs(type(family.bonds), tuple)
        self.assertTrue(all(type(bond) is tuple for bond in family.bonds))
        self.assertEqual(len(family), 5)
        self.assertEqual(list(family), bonds)
        self.assertEqual(Family(stock, tuple(bonds)).bonds, tuple(bonds))

    def test_the_list_is_copied(self):
        bonds = [(("a", 1),)]
        family = Family(Stock({"a": line(1)}), bonds)
        bonds.append((("a", -1),))
        self.assertEqual(family.bonds, ((("a", 1),),))
        self.assertIs(family.is_past([1]), True)
        family.extended(bonds)
        family.without(0)
        self.assertEqual(family.bonds, ((("a", 1),),))
        self.assertEqual(len(bonds), 2)

    def test_without_bonds_and_without_cells(self):
        family = Family(Stock({"a": line(2)}), [])
        self.assertEqual((len(family), list(family), family.bonds), (0, [], ()))
        self.assertTrue(all(family.is_past([position]) for position in range(3)))
        empty = Family(Stock({}), ())
        self.assertEqual((len(empty), list(empty)), (0, []))
        self.assertIs(empty.is_past([]), True)
        self.assertIs(empty.is_past([0]), False)

    def test_pasts(self):
        for family in some_families(100, seed=20):
            for row in every_row(family.stock):
                expected = all(keeps(family.stock, row, bond) for bond in family.bonds)
                self.assertIs(family.is_past(row), expected)
                self.assertIs(family.is_past(list(row)), expected)

    def test_what_is_no_row_is_no_past(self):
        family = Family(Stock({"a": line(1), "b": line(2)}), [])
        for row in ([], [0], [2, 0], [0, 3], [-1, 0], [0, 0, 0], (0, -1)):
            self.assertIs(family.is_past(row), False)

    def test_the_middle_of_pasts_is_a_past(self):
        dice = random.Random(21)
        for family in families_with_past(60, seed=22):
            found = every_past(family)
            for count in (3, 5):
                rows = [dice.choice(found) for _ in range(count)]
                self.assertIs(family.is_past(middle_of_rows(family.stock, rows)), True)

    def test_wrong_bonds(self):
        stock = Stock({"a": line(1), "b": line(2)})
        good = (("a", 1), ("b", -2))
        family = Family(stock, [good, good, good])
        for bond in WRONG:
            for place in range(3):
                bonds = [good] * place + [bond, good, ()]
                self.raises(BadBond, {"place": place}, Family, stock, bonds)
                self.raises(BadBond, {"place": place}, Family, stock, tuple(bonds))
                self.raises(BadBond, {"place": place}, family.extended, bonds)
        self.raises(BadBond, {"place": 0}, Family, Stock({}), [good])

    def test_extended(self):
        for family in some_families(30, seed=23):
            more = [(side,) for side in family.stock.sides()]
            for bonds in ([], more, tuple(more[:1])):
                longer = family.extended(bonds)
                self.assertIsInstance(longer, Family)
                self.assertEqual(longer.bonds, family.bonds + tuple(bonds))
                self.assertEqual(longer.stock.names, family.stock.names)

    def test_without_a_bond(self):
        for family in some_families(30, seed=24):
            for place in range(len(family)):
                shorter = family.without(place)
                self.assertIsInstance(shorter, Family)
                self.assertEqual(shorter.bonds, family.bonds[:place] + family.bonds[place + 1:])
                self.assertEqual(len(family), len(shorter) + 1)

    def test_wrong_indexes(self):
        for family in some_families(20, seed=25):
            for place in (-1, -len(family) - 1, len(family), len(family) + 1, 999999999):
                self.raises(BadIndex, {"place": place}, family.without, place)
        self.raises(BadIndex, {"place": 0}, Family(Stock({}), []).without, 0)

    def test_two_thousand_five_hundred_bonds(self):
        stock = Stock({f"c{number}": line(8) for number in range(16)})
        pairs = list(itertools.combinations([side for side in stock.sides() if side[1] > 0], 2))[:2500]
        family = Family(stock, pairs)
        self.assertEqual(len(family), 2500)
        self.assertIs(family.is_past([8] * 16), True)
        self.assertIs(family.is_past([0] * 16), False)


if __name__ == "__main__":
    unittest.main()
