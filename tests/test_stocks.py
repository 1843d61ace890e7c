import unittest

from by_definition import Case, sides

from everypast.errors import BadName, UnknownName
from everypast.shapes import Shape, line, star
from everypast.stocks import Stock, opposite


class Stocks(Case):
    def test_names_and_shapes_in_order(self):
        tree = Shape([0, 1, 1])
        stock = Stock({"pot": tree, "b": line(2), "a": star(3)})
        self.assertEqual(stock.names, ("pot", "b", "a"))
        self.assertIs(type(stock.names), tuple)
        self.assertEqual(len(stock), 3)
        self.assertEqual(list(stock), ["pot", "b", "a"])
        self.assertEqual([name for name in stock], ["pot", "b", "a"])
        self.assertIsInstance(stock.shape_of("b"), Shape)
        self.assertEqual(stock.shape_of("pot").parents, (0, 1, 1))
        self.assertEqual(stock.shape_of("a").parents, (0, 0, 0))

    def test_names_of_cells(self):
        stock = Stock({"pot": line(1), "b": line(2)})
        for name in ("pot", "b"):
            self.assertIs(name in stock, True)
        for name in ("po", "a", "", "B", "pot "):
            self.assertIs(name in stock, False)

    def test_without_cells(self):
        stock = Stock({})
        self.assertEqual((stock.names, len(stock), list(stock)), ((), 0, []))
        self.assertEqual((stock.sides(), stock.walls()), ([], []))
        self.assertIs("a" in stock, False)
        self.assertEqual(stock.part([]).names, ())
        self.raises(UnknownName, {"name": "a"}, stock.shape_of, "a")

    def test_the_dict_is_copied(self):
        cells = {"a": line(1), "b": line(2)}
        stock = Stock(cells)
        cells["a"] = star(5)
        cells["c"] = line(1)
        del cells["b"]
        self.assertEqual(stock.names, ("a", "b"))
        self.assertEqual(stock.shape_of("a").parents, (0,))
        self.assertEqual(stock.sides(), [("a", 1), ("a", -1), ("b", 1), ("b", -1), ("b", 2), ("b", -2)])
        self.assertIs("c" in stock, False)

    def test_invalid_names(self):
        for name in ("", "A", "a b", "1a", "abcdefghi", "a_"):
            self.raises(BadName, {"name": name}, Stock, {"a": line(1), name: line(1), "0": line(1)})

    def test_unknown_names(self):
        stock = Stock({"a": line(1), "b": star(2)})
        for name in ("c", "", "A"):
            self.raises(UnknownName, {"name": name}, stock.shape_of, name)

    def test_sides_and_walls_in_order(self):
        stock = Stock({"b": star(2), "a": line(1), "c": Shape([0, 1, 0])})
        self.assertEqual(stock.sides(), [
            ("b", 1), ("b", -1), ("b", 2), ("b", -2), ("a", 1), ("a", -1),
            ("c", 1), ("c", -1), ("c", 2), ("c", -2), ("c", 3), ("c", -3),
        ])
        self.assertEqual(stock.sides(), sides(stock))
        self.assertEqual(stock.walls(), [("b", 1), ("b", 2), ("a", 1), ("c", 1), ("c", 2), ("c", 3)])
        stock.sides().clear()
        stock.walls().clear()
        self.assertEqual((len(stock.sides()), len(stock.walls())), (12, 6))

    def test_sixteen_cells_of_eight_walls_and_more(self):
        for count in (16, 20):
            stock = Stock({f"c{number}": star(8) for number in range(count)})
            self.assertEqual((len(stock), len(stock.sides()), len(stock.walls())), (count, 16 * count, 8 * count))

    def test_parts(self):
        stock = Stock({"a": line(1), "b": star(2), "c": Shape([0, 1, 1])})
        for names in (["c", "a"], ("c", "a")):
            part = stock.part(names)
            self.assertIsInstance(part, Stock)
            self.assertEqual(part.names, ("c", "a"))
            self.assertEqual(part.shape_of("c").parents, (0, 1, 1))
            self.assertEqual(part.shape_of("a").parents, (0,))
            self.assertIs("b" in part, False)
        self.assertEqual(stock.part([]).names, ())
        self.assertEqual(stock.part(["a", "b", "c"]).names, stock.names)
        self.assertEqual(stock.names, ("a", "b", "c"))

    def test_parts_with_wrong_names(self):
        stock = Stock({"a": line(1), "b": star(2)})
        self.raises(UnknownName, {"name": "c"}, stock.part, ["a", "c", "a"])
        self.raises(BadName, {"name": "a"}, stock.part, ["a", "b", "a", "c"])
        self.raises(BadName, {"name": "b"}, stock.part, ("b", "b", "a", "a"))
        self.raises(UnknownName, {"name": "A"}, stock.part, ("A", "A"))

    def test_opposites(self):
        self.assertEqual(opposite(("a", 3)), ("a", -3))
        self.assertEqual(opposite(("pot", -1)), ("pot", 1))
        self.assertIs(type(opposite(("a", 1))), tuple)


if __name__ == "__main__":
    unittest.main()
