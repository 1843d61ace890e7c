import random
import unittest

from by_definition import Case, every_row, keeps, sides, tight

from everypast.bonds import is_idle, keeps_bond, tight_bonds
from everypast.errors import BadBond, BadRow, UnknownName
from everypast.shapes import Shape, line, star
from everypast.stocks import Stock

SMALL = (
    Stock({"a": line(1)}),
    Stock({"b": star(2), "a": line(3)}),
    Stock({"c": Shape([0, 1, 1]), "a": star(2)}),
    Stock({"a": line(1), "b": line(1), "c": line(2)}),
)
WRONG = (
    (), (("a", 1), ("a", 1), ("a", 1)), (("z", 1),), (("a", 0),), (("a", 2),), (("a", -2), ("a", 1)),
    (("a", 1), ("b", 3)), (("b", -3), ("a", 1)), (("a", 1), ("", 1)),
)


def every_bond(stock):
    found = sides(stock)
    return [(side,) for side in found] + [(side, other) for side in found for other in found]


class Keeping(Case):
    def test_rows_that_keep_bonds(self):
        for stock in SMALL:
            for bond in every_bond(stock):
                for row in every_row(stock):
                    self.assertIs(keeps_bond(stock, row, bond), keeps(stock, row, bond))

    def test_idle_bonds(self):
        for stock in SMALL:
            found = {True: 0, False: 0}
            for bond in every_bond(stock):
                expected = all(keeps(stock, row, bond) for row in every_row(stock))
                self.assertIs(is_idle(stock, bond), expected, bond)
                found[expected] += 1
            self.assertGreater(found[True], 0)
        for bond in every_bond(SMALL[0]):
            self.assertIs(is_idle(SMALL[0], bond), set(bond) == {("a", 1), ("a", -1)})

    def test_one_side_a_side_twice_a_side_and_its_opposite(self):
        stock = Stock({"a": line(2)})
        self.assertIs(keeps_bond(stock, [1], (("a", 2),)), False)
        self.assertIs(keeps_bond(stock, [2], (("a", 2), ("a", 2))), True)
        self.assertIs(keeps_bond(stock, (0,), (("a", 2), ("a", -2))), True)
        self.assertIs(is_idle(stock, (("a", 2), ("a", 2))), False)
        self.assertIs(is_idle(stock, (("a", -2), ("a", 2))), True)
        self.assertIs(is_idle(stock, (("a", 1), ("a", -2))), True)
        self.assertIs(is_idle(stock, (("a", -1), ("a", 2))), False)

    def test_wrong_bonds(self):
        stock = Stock({"a": line(1), "b": line(2)})
        for bond in WRONG:
            self.raises(BadBond, {"place": 0}, keeps_bond, stock, [0, 0], bond)
            self.raises(BadBond, {"place": 0}, is_idle, stock, bond)

    def test_bonds_of_what_is_no_pair_of_a_name_and_a_number(self):
        stock = Stock({"a": line(1), "b": line(2)})
        for side in ("a", 1, (), ("a",), ("a", 1, 1), ("a", "b"), (1, "a"), (1, 1), (("a", 1), 1), ("a", (1,))):
            self.raises(BadBond, {"place": 0}, is_idle, stock, (side,))
            self.raises(BadBond, {"place": 0}, is_idle, stock, (("a", 1), side))

    def test_wrong_rows_come_before_wrong_bonds(self):
        stock = Stock({"a": line(1), "b": line(2)})
        for row in ([], [0], [2, 0], [0, 3], [0, 0, 0], [-1, 0]):
            self.raises(BadRow, {"row": row}, keeps_bond, stock, row, (("a", 1),))
            self.raises(BadRow, {"row": row}, keeps_bond, stock, tuple(row), ())

    def test_a_stock_without_cells_has_no_bonds(self):
        self.raises(BadBond, {"place": 0}, keeps_bond, Stock({}), [], (("a", 1),))
        self.raises(BadBond, {"place": 0}, is_idle, Stock({}), ())


class TightBonds(Case):
    def test_by_their_definition(self):
        dice = random.Random(11)
        for stock in SMALL:
            for _ in range(60):
                rows = [dice.choice(every_row(stock)) for _ in range(dice.randrange(8))]
                expected = tight(stock, rows, stock.names)
                self.assertEqual(tight_bonds(stock, rows), expected)
                self.assertEqual(tight_bonds(stock, tuple(rows), cells=None), expected)
                self.assertEqual(tight_bonds(stock, [list(row) for row in rows], cells=stock.names), expected)

    def test_over_some_cells(self):
        dice = random.Random(12)
        for stock in SMALL:
            for _ in range(40):
                rows = [dice.choice(every_row(stock)) for _ in range(dice.randrange(6))]
                cells = [dice.choice(stock.names) for _ in range(dice.randrange(5))]
                self.assertEqual(tight_bonds(stock, rows, cells=cells), tight(stock, rows, cells))
                self.assertEqual(tight_bonds(stock, rows, cells=tuple(cells[::-1])), tight(stock, rows, cells))

    def test_all_rows_and_single_rows(self):
        for stock in SMALL:
            self.assertEqual(tight_bonds(stock, every_row(stock)), [])
            for row in every_row(stock):
                self.assertEqual(tight_bonds(stock, [row, row]), tight(stock, [row], stock.names))
                self.assertTrue(all(len(bond) == 1 for bond in tight_bonds(stock, [row])))

    def test_the_empty_set(self):
        stock = Stock({"b": star(2), "a": line(2)})
        expected = [(("b", 1),), (("b", 2),), (("a", -1),), (("a", 2),)]
        self.assertEqual(tight(stock, [], stock.names), expected)
        self.assertEqual(tight_bonds(stock, []), expected)
        self.assertEqual(tight_bonds(stock, (), cells=["a"]), expected[2:])

    def test_no_cells(self):
        stock = Stock({"b": star(2), "a": line(2)})
        for rows in ([], [[1, 1]], every_row(stock)):
            self.assertEqual(tight_bonds(stock, rows, cells=[]), [])
            self.assertEqual(tight_bonds(stock, rows, cells=()), [])
        self.assertEqual(tight_bonds(Stock({}), []), [])
        self.assertEqual(tight_bonds(Stock({}), [[]]), [])
        self.assertEqual(tight_bonds(Stock({}), [[], []], cells=[]), [])

    def test_two_sides_of_one_cell(self):
        stock = Stock({"a": star(3)})
        self.assertEqual(tight_bonds(stock, [[1], [2]]), [(("a", -3),), (("a", 1), ("a", 2))])
        self.assertEqual(tight_bonds(Stock({"a": line(4)}), [[1], [3]]),
                         [(("a", 1),), (("a", -4),), (("a", -2), ("a", 3))])

    def test_the_rows_that_keep_them_are_those_that_keep_all_bonds_that_hold(self):
        dice = random.Random(13)
        for stock in SMALL:
            for _ in range(20):
                rows = [dice.choice(every_row(stock)) for _ in range(dice.randrange(6))]
                holding = [bond for bond in every_bond(stock) if all(keeps(stock, row, bond) for row in rows)]
                for row in every_row(stock):
                    expected = all(keeps(stock, row, bond) for bond in holding)
                    found = all(keeps(stock, row, bond) for bond in tight_bonds(stock, rows))
                    self.assertIs(found, expected)

    def test_sixteen_cells(self):
        stock = Stock({f"c{number}": line(8) for number in range(16)})
        rows = [[place % 9] * 16 for place in range(81)]
        found = tight_bonds(stock, rows)
        # The cells move together: each two of them have two bonds for each wall.
        self.assertEqual(len(found), 8 * 16 * 15)
        self.assertEqual(found[0], (("c0", 1), ("c1", -1)))

    def test_wrong_rows_come_before_unknown_names(self):
        stock = Stock({"a": line(1), "b": line(2)})
        self.raises(BadRow, {"row": [0]}, tight_bonds, stock, [[0, 0], (0,), [9, 9]], cells=["z"])
        self.raises(BadRow, {"row": [0, 3]}, tight_bonds, stock, ([0, 3], [2, 0]))
        self.raises(BadRow, {"row": [0]}, tight_bonds, Stock({}), [[], [0]])
        self.raises(UnknownName, {"name": "z"}, tight_bonds, stock, [[0, 0]], cells=["a", "z", "y"])
        self.raises(UnknownName, {"name": ""}, tight_bonds, stock, [], cells=("a", "a", ""))

    def test_what_is_passed_and_returned_stays(self):
        stock = Stock({"a": line(1), "b": line(2)})
        rows = [[0, 1], [1, 2]]
        cells = ["b", "a", "b"]
        first = tight_bonds(stock, rows, cells=cells)
        self.assertEqual((rows, cells), ([[0, 1], [1, 2]], ["b", "a", "b"]))
        again = list(first)
        first.clear()
        self.assertEqual(tight_bonds(stock, rows, cells=cells), again)
        self.assertTrue(all(type(bond) is tuple for bond in again))


if __name__ == "__main__":
    unittest.main()
