import random
import unittest

from by_definition import Case, between, every_row, middle_of_rows, parents_of, parted, row_has, sides

from everypast.errors import BadRow, BadSide, EvenCount
from everypast.rows import has_side, is_row, lies_between, middle_row, sides_of, walls_parting
from everypast.shapes import Shape, line, star
from everypast.stocks import Stock

STOCKS = (
    Stock({}),
    Stock({"a": line(1)}),
    Stock({"b": star(2), "a": line(3)}),
    Stock({"c": Shape([0, 1, 1]), "a": star(2), "b": line(1)}),
    Stock({"a": Shape([0, 1, 1, 0, 4, 4, 2, 3]), "b": star(8)}),
)


class Rows(Case):
    def test_rows(self):
        stock = Stock({"b": star(2), "a": line(3)})
        for row in every_row(stock):
            self.assertIs(is_row(stock, row), True)
            self.assertIs(is_row(stock, list(row)), True)
        for row in ([], [0], [0, 0, 0], [3, 0], [0, 4], [-1, 0], [0, -1], [2, 999999999], (3, 3)):
            self.assertIs(is_row(stock, row), False, row)

    def test_the_stock_without_cells_has_one_row(self):
        stock = Stock({})
        self.assertIs(is_row(stock, []), True)
        self.assertIs(is_row(stock, ()), True)
        self.assertIs(is_row(stock, [0]), False)
        self.assertEqual(sides_of(stock, []), [])
        self.assertEqual(middle_row(stock, [[], (), []]), [])
        self.assertEqual(walls_parting(stock, [], []), [])
        self.assertIs(lies_between(stock, [], (), []), True)

    def test_sides_of_rows(self):
        for stock in STOCKS:
            for row in every_row(stock):
                had = [side for side in sides(stock) if row_has(stock, row, side)]
                self.assertEqual(sides_of(stock, row), had)
                self.assertEqual(len(had), len(stock.walls()))
        for stock in STOCKS[:4]:
            for row in every_row(stock):
                for side in sides(stock):
                    self.assertIs(has_side(stock, list(row), side), row_has(stock, row, side))

    def test_middles_of_rows(self):
        dice = random.Random(8)
        for stock in STOCKS:
            for count in (1, 3, 3, 3, 5, 31):
                rows = [dice.choice(every_row(stock)) for _ in range(count)]
                self.assertEqual(middle_row(stock, rows), middle_of_rows(stock, rows))
                self.assertEqual(middle_row(stock, tuple(list(row) for row in rows)), middle_of_rows(stock, rows))

    def test_walls_parting_rows(self):
        dice = random.Random(9)
        for stock in STOCKS:
            for _ in range(40):
                row, other = dice.choice(every_row(stock)), dice.choice(every_row(stock))
                expected = [
                    (name, wall)
                    for place, name in enumerate(stock.names)
                    for wall in parted(parents_of(stock, name), row[place], other[place])
                ]
                self.assertEqual(walls_parting(stock, row, list(other)), expected)

    def test_rows_between(self):
        dice = random.Random(10)
        for stock in STOCKS:
            found = {True: 0, False: 0}
            for _ in range(200):
                row, start, goal = (dice.choice(every_row(stock)) for _ in range(3))
                expected = all(
                    row[place] in between(parents_of(stock, name), start[place], goal[place])
                    for place, name in enumerate(stock.names)
                )
                self.assertIs(lies_between(stock, row, start, goal), expected)
                found[expected] += 1
            self.assertGreater(found[True], 0)

    def test_wrong_rows(self):
        stock = Stock({"a": line(1), "b": line(2)})
        good = [0, 0]
        for row in ([], [0], [2, 0], [0, 3], [-1, 0], [0, 0, 0]):
            for passed in (row, tuple(row)):
                caught = {"row": row}
                self.raises(BadRow, caught, has_side, stock, passed, ("a", 1))
                self.raises(BadRow, caught, has_side, stock, passed, ("c", 1))
                self.raises(BadRow, caught, sides_of, stock, passed)
                self.raises(BadRow, caught, middle_row, stock, [good, passed])
                self.raises(BadRow, caught, middle_row, stock, [good, passed, [9, 9]])
                self.raises(BadRow, caught, walls_parting, stock, passed, [9, 9])
                self.raises(BadRow, caught, walls_parting, stock, good, passed)
                self.raises(BadRow, caught, lies_between, stock, passed, [8, 8], [9, 9])
                self.raises(BadRow, caught, lies_between, stock, good, passed, [9, 9])
                self.raises(BadRow, caught, lies_between, stock, good, good, passed)

    def test_wrong_sides(self):
        stock = Stock({"a": line(1), "b": line(2)})
        for side in (("c", 1), ("a", 0), ("a", 2), ("a", -2), ("b", 3), ("b", -3), ("", 1), ("a", 999999999)):
            self.raises(BadSide, {"side": side}, has_side, stock, [0, 0], side)

    def test_even_numbers_of_rows(self):
        for stock, row in ((Stock({}), []), (Stock({"a": line(1)}), [1])):
            for count in (0, 2, 4, 30):
                self.raises(EvenCount, {"number": count}, middle_row, stock, [row] * count)

    def test_what_is_passed_and_returned_stays(self):
        stock = Stock({"a": line(2), "b": line(2)})
        rows = [[0, 1], [1, 2], [2, 0]]
        found = middle_row(stock, rows)
        self.assertEqual(rows, [[0, 1], [1, 2], [2, 0]])
        found.append(5)
        self.assertEqual(middle_row(stock, rows), [1, 1])
        row = [3, 0]
        caught = self.raises(BadRow, {"row": [3, 0]}, sides_of, stock, row)
        row.append(1)
        self.assertEqual(caught.row, [3, 0])
        single = [[2, 1]]
        middle_row(stock, single).clear()
        self.assertEqual(single, [[2, 1]])


if __name__ == "__main__":
    unittest.main()
