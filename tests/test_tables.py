import itertools
import random
import unittest

from by_definition import Case, every_row, keeps, middle_of_rows, tight

from everypast.errors import BadName, BadRow, UnknownName, UnlikeStocks
from everypast.shapes import Shape, line, star
from everypast.stocks import Stock
from everypast.tables import Table

STOCKS = (
    Stock({"a": line(3)}),
    Stock({"a": star(3)}),
    Stock({"a": line(2), "b": line(1)}),
    Stock({"b": star(2), "a": Shape([0, 1, 1])}),
    Stock({"a": line(1), "b": star(2), "c": line(2)}),
)


def some_tables(count, seed, *, most=8):
    dice = random.Random(seed)
    tables = []
    for _ in range(count):
        stock = dice.choice(STOCKS)
        tables.append(Table(stock, [dice.choice(every_row(stock)) for _ in range(dice.randrange(most))]))
    return tables


def is_closed(table):
    rows = set(table.rows)
    return all(
        tuple(middle_of_rows(table.stock, three)) in rows
        for three in itertools.combinations(table.rows, 3)
    )


class MakingTables(Case):
    def test_rows_in_ascending_order_without_duplicates(self):
        stock = Stock({"a": line(2), "b": line(1)})
        rows = [[2, 1], (0, 1), [2, 0], (0, 1), [0, 1], [1, 0]]
        table = Table(stock, rows)
        self.assertEqual(table.rows, ((0, 1), (1, 0), (2, 0), (2, 1)))
        self.assertTrue(all(type(row) is tuple for row in table.rows))
        self.assertIs(type(table.rows), tuple)
        self.assertIs(table.stock, stock)
        self.assertEqual(len(table), 4)
        self.assertEqual(list(table), [(0, 1), (1, 0), (2, 0), (2, 1)])
        for row in every_row(stock):
            self.assertIs(row in table, row in table.rows)
        for row in ((), (0,), (0, 1, 0), (5, 5), (-1, 0)):
            self.assertIs(row in table, False)

    def test_rows_are_copied(self):
        stock = Stock({"a": line(2)})
        rows = [[1], [2]]
        table = Table(stock, rows)
        rows[0][0] = 0
        rows.pop()
        self.assertEqual(table.rows, ((1,), (2,)))
        self.assertIs((0,) in table, False)

    def test_without_rows(self):
        for stock in STOCKS:
            table = Table(stock, ())
            self.assertEqual((table.rows, len(table), list(table)), ((), 0, []))
            self.assertIsNone(table.fault())
            self.assertEqual(table.hull().rows, ())
            self.assertEqual(table.tight(), tight(stock, [], stock.names))
            self.assertEqual((table & Table(stock, every_row(stock))).rows, ())
            self.assertEqual(table.onto(stock.names).rows, ())

    def test_without_cells(self):
        stock = Stock({})
        for rows in ([], [[]], [(), []]):
            table = Table(stock, rows)
            self.assertEqual(table.rows, ((),) if rows else ())
            self.assertEqual(table.hull().rows, table.rows)
            self.assertIsNone(table.fault())
            self.assertEqual(table.tight(), [])

    def test_wrong_rows(self):
        stock = Stock({"a": line(2), "b": line(1)})
        for row in ([], [0], [3, 0], [0, 2], [0, -1], [0, 0, 0]):
            self.raises(BadRow, {"row": row}, Table, stock, [[0, 0], row, [9, 9]])
            self.raises(BadRow, {"row": row}, Table, stock, (tuple(row), (0, 0)))

    def test_eighty_one_rows_and_more(self):
        stock = Stock({"a": line(8), "b": star(8), "c": line(8)})
        rows = [[one, other, min(one, other)] for one in range(9) for other in range(9)]
        table = Table(stock, rows)
        self.assertEqual(len(table), 81)
        three = table.fault()
        self.assertNotIn(tuple(middle_of_rows(stock, three)), table.rows)
        hull = table.hull()
        self.assertGreater(len(hull), 81)
        self.assertIsNone(hull.fault())
        full = Table(stock, every_row(stock))
        self.assertEqual(len(full.hull()), 729)
        self.assertIsNone(full.fault())


class Closed(Case):
    def test_faults(self):
        found = {True: 0, False: 0}
        for table in some_tables(200, 14):
            closed = is_closed(table)
            found[closed] += 1
            fault = table.fault()
            if closed:
                self.assertIsNone(fault)
            else:
                self.assertIs(type(fault), list)
                self.assertEqual(len(fault), 3)
                for row in fault:
                    self.assertIs(type(row), list)
                    self.assertIn(tuple(row), table.rows)
                self.assertNotIn(tuple(middle_of_rows(table.stock, fault)), table.rows)
                fault[0].clear()
                fault.clear()
                self.assertEqual(len(table.fault()), 3)
                self.assertTrue(all(len(row) == len(table.stock) for row in table.fault()))
        self.assertGreater(min(found.values()), 20)

    def test_every_set_of_rows_of_a_small_stock(self):
        for stock in (Stock({"a": star(3)}), Stock({"a": line(1), "b": line(1)}), Stock({"a": line(1), "b": star(2)})):
            rows = every_row(stock)
            for count in range(len(rows) + 1):
                for some in itertools.combinations(rows, count):
                    table = Table(stock, some)
                    self.assertIs(table.fault() is None, is_closed(table))

    def test_tight_bonds(self):
        for table in some_tables(60, 15):
            expected = tight(table.stock, table.rows, table.stock.names)
            self.assertEqual(table.tight(), expected)
            table.tight().clear()
            self.assertEqual(table.tight(), expected)

    def test_hulls(self):
        for table in some_tables(60, 16):
            hull = table.hull()
            self.assertIsInstance(hull, Table)
            self.assertIs(hull.stock, table.stock)
            if len(table):
                bonds = tight(table.stock, table.rows, table.stock.names)
                kept = [row for row in every_row(table.stock) if all(keeps(table.stock, row, bond) for bond in bonds)]
                self.assertEqual(list(hull.rows), kept)
            self.assertTrue(is_closed(hull))
            self.assertLessEqual(set(table.rows), set(hull.rows))
            self.assertEqual(hull.hull().rows, hull.rows)
            self.assertIs(table.fault() is None, hull.rows == table.rows)

    def test_the_hull_is_the_least_closed_table(self):
        for table in some_tables(40, 17):
            rows = set(table.rows)
            while True:
                added = {tuple(middle_of_rows(table.stock, three)) for three in itertools.combinations(rows, 3)}
                if added <= rows:
                    break
                rows |= added
            self.assertEqual(set(table.hull().rows), rows)


class Combining(Case):
    def test_rows_in_both(self):
        dice = random.Random(18)
        for stock in STOCKS:
            for _ in range(10):
                rows = [dice.choice(every_row(stock)) for _ in range(6)]
                others = [dice.choice(every_row(stock)) for _ in range(6)]
                both = Table(stock, rows) & Table(stock, others)
                self.assertIsInstance(both, Table)
                self.assertEqual(both.rows, tuple(sorted(set(rows) & set(others))))
                self.assertEqual(both.stock.names, stock.names)

    def test_equal_stocks_that_are_different_objects(self):
        one = Table(Stock({"a": line(1), "b": star(2)}), [[0, 1], [1, 2]])
        other = Table(Stock({"a": star(1), "b": Shape([0, 0])}), [[1, 2]])
        self.assertEqual((one & other).rows, ((1, 2),))
        self.assertEqual(one.rows, ((0, 1), (1, 2)))
        self.assertEqual(other.rows, ((1, 2),))

    def test_unlike_stocks(self):
        table = Table(Stock({"a": line(2), "b": line(2)}), [])
        for cells in (
            {"b": line(2), "a": line(2)}, {"a": line(2)}, {"a": line(2), "b": star(2)}, {"a": line(2), "c": line(2)},
            {"a": line(2), "b": line(2), "c": line(2)}, {"a": line(2), "b": line(3)}, {"a": star(2), "b": line(2)},
        ):
            other = Table(Stock(cells), [])
            self.raises(UnlikeStocks, {}, lambda one, two: one & two, table, other)
            self.raises(UnlikeStocks, {}, lambda one, two: one & two, other, table)

    def test_onto_some_cells(self):
        for table in some_tables(80, 19):
            names = table.stock.names
            for count in range(1, len(names) + 1):
                for some in itertools.permutations(names, count):
                    part = table.onto(list(some))
                    places = [names.index(name) for name in some]
                    expected = sorted({tuple(row[place] for place in places) for row in table.rows})
                    self.assertEqual(list(part.rows), expected)
                    self.assertEqual(part.stock.names, some)
                    for name in some:
                        self.assertEqual(part.stock.shape_of(name).parents, table.stock.shape_of(name).parents)
                    self.assertEqual(table.onto(some).rows, part.rows)

    def test_onto_wrong_names(self):
        table = Table(Stock({"a": line(2), "b": line(2)}), [[0, 0]])
        self.raises(UnknownName, {"name": "c"}, table.onto, ["a", "c", "a"])
        self.raises(BadName, {"name": "a"}, table.onto, ["a", "a", "c"])
        self.raises(BadName, {"name": "b"}, table.onto, ("a", "b", "b"))


if __name__ == "__main__":
    unittest.main()
