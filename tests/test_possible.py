import itertools
import random
import unittest

from by_definition import Case, every_past, families_with_past, families_without_past, is_chain, other_side, row_has
from by_definition import parents_of, sides

from everypast.errors import BadName, BadRow, UnknownName
from everypast.families import Family
from everypast.possible import decide, possible_positions, possible_rows
from everypast.shapes import line, star
from everypast.stocks import Stock


def onto(family, cells, row):
    return [row[family.stock.names.index(cell)] for cell in cells]


def rows_for(family, cells):
    """All rows of positions for the cells, in ascending order."""
    ranges = [range(len(parents_of(family.stock, cell)) + 1) for cell in cells]
    return [list(row) for row in itertools.product(*ranges)]


def choices(family, most):
    """All lists of at most so many different cells."""
    return [
        list(cells)
        for count in range(most + 1)
        for cells in itertools.permutations(family.stock.names, count)
    ]


class Positions(Case):
    def test_possible_positions(self):
        seen = {True: 0, False: 0}
        for family in families_with_past(200, seed=300):
            for cell in family.stock.names:
                expected = sorted({onto(family, [cell], row)[0] for row in every_past(family)})
                self.assertEqual(possible_positions(family, cell), expected)
                seen[len(expected) == len(rows_for(family, [cell]))] += 1
        self.assertGreater(min(seen.values()), 50)

    def test_edges(self):
        free = Family(Stock({"a": star(3), "b": line(8)}), [])
        self.assertEqual(possible_positions(free, "a"), [0, 1, 2, 3])
        self.assertEqual(possible_positions(free, "b"), list(range(9)))
        holes = Family(Stock({"a": line(2)}), [(("a", -1), ("a", 2)), (("a", 1), ("a", -2)), (("a", -1), ("a", 2))])
        self.assertEqual(possible_positions(holes, "a"), [0, 2])
        possible_positions(holes, "a").clear()
        self.assertEqual(possible_positions(holes, "a"), [0, 2])

    def test_wrong_cells_come_before_no_past(self):
        stock = Stock({"a": line(1), "b": line(2)})
        for bonds in ([], [(("b", 1),), (("b", -1),)]):
            family = Family(stock, bonds)
            for name in ("c", "", "A"):
                self.raises(UnknownName, {"name": name}, possible_positions, family, name)
                self.raises(UnknownName, {"name": name}, possible_rows, family, ["a", name, "a"])
                self.raises(UnknownName, {"name": name}, decide, family, [name, "a"], [[9]])
            self.raises(BadName, {"name": "a"}, possible_rows, family, ["a", "a", "c"])
            self.raises(BadName, {"name": "b"}, possible_rows, family, ("a", "b", "b"))
            self.raises(BadName, {"name": "a"}, decide, family, ["a", "a"], [[9]])

    def test_families_without_a_past(self):
        for family in families_without_past(80, seed=301):
            cell = family.stock.names[0]
            self.raises_no_past(family, possible_positions, family, cell)
            self.raises_no_past(family, possible_rows, family, [cell])
            self.raises_no_past(family, possible_rows, family, [])
            self.raises_no_past(family, decide, family, [cell], [])
            self.raises_no_past(family, decide, family, [cell], rows_for(family, [cell]))


class Rows(Case):
    def test_possible_rows(self):
        for family in families_with_past(120, seed=302):
            for cells in choices(family, 3):
                expected = sorted({tuple(onto(family, cells, row)) for row in every_past(family)})
                found = possible_rows(family, cells)
                self.assertEqual(found, [list(row) for row in expected])
                self.assertEqual(possible_rows(family, tuple(cells)), found)

    def test_rows_possible_by_pairs_only(self):
        # Each two positions of the missing rows are looked at, also those of the same cell.
        stock = Stock({"a": line(1), "b": line(1), "c": line(1)})
        family = Family(stock, [(("a", -1), ("b", -1)), (("b", -1), ("c", -1)), (("a", -1), ("c", -1))])
        self.assertEqual(possible_rows(family, ["c", "a", "b"]), [[0, 0, 0], [0, 0, 1], [0, 1, 0], [1, 0, 0]])

    def test_edges(self):
        for family in families_with_past(20, seed=303):
            self.assertEqual(possible_rows(family, []), [[]])
            self.assertEqual(possible_rows(family, ()), [[]])
        self.assertEqual(possible_rows(Family(Stock({}), []), []), [[]])
        family = Family(Stock({"a": line(1), "b": line(1)}), [(("a", 1),), (("b", -1),), (("b", -1),)])
        self.assertEqual(possible_rows(family, ["a", "b"]), [[1, 0]])
        cells = ["b"]
        rows = possible_rows(family, cells)
        rows[0].append(7)
        rows.clear()
        self.assertEqual((possible_rows(family, cells), cells), ([[0]], ["b"]))

    def test_rows_of_large_cells(self):
        family = Family(Stock({name: line(8) for name in "abcd"}), [(("a", 4), ("c", -2))])
        found = possible_rows(family, ["a", "b", "c"])
        expected = [list(row) for row in itertools.product(range(9), repeat=3) if row[0] >= 4 or row[2] < 2]
        self.assertEqual(found, expected)


class Claims(Case):
    def check(self, family, cells, rows):
        claimed = [list(row) for row in rows]
        failing = [row for row in every_past(family) if onto(family, cells, row) not in claimed]
        answer = decide(family, cells, rows)
        if failing:
            word, row = answer
            self.assertEqual(word, "fails")
            self.assertIs(type(row), list)
            self.assertIn(tuple(row), failing)
            return False
        word, clashes = answer
        self.assertEqual(word, "holds")
        self.assertIs(type(clashes), list)
        left = [row for row in rows_for(family, cells) if row not in claimed]
        self.assertEqual([entry[0] for entry in clashes], left)
        for row, first, second, path in clashes:
            self.assertIs(type(row), list)
            whole = [0] * len(family.stock)
            for cell, position in zip(cells, row):
                whole[family.stock.names.index(cell)] = position
            for side in (first, second):
                self.assertIn(side, sides(family.stock))
                self.assertIn(side[0], cells)
                self.assertTrue(row_has(family.stock, whole, side))
            self.assertTrue(is_chain(family, path, first, other_side(second)))
        return True

    def test_claims_over_one_and_two_cells(self):
        dice = random.Random(304)
        seen = {True: 0, False: 0}
        for family in families_with_past(150, seed=305):
            for cells in choices(family, 2)[1:]:
                everything = rows_for(family, cells)
                had = [row for row in everything if row in [onto(family, cells, past) for past in every_past(family)]]
                seen[self.check(family, cells, had)] += 1
                seen[self.check(family, tuple(cells), tuple([tuple(row) for row in had[::-1] + had]))] += 1
                seen[self.check(family, cells, had[1:])] += 1
                seen[self.check(family, cells, dice.sample(everything, dice.randint(0, len(everything))))] += 1
                self.assertTrue(self.check(family, cells, everything))
                self.assertFalse(self.check(family, cells, []))
        self.assertGreater(min(seen.values()), 300)

    def test_with_all_rows_and_without_rows(self):
        family = Family(Stock({"a": line(1), "b": star(2)}), [])
        self.assertEqual(decide(family, ["a"], [[1], [0]]), ("holds", []))
        self.assertEqual(decide(family, ["b", "a"], rows_for(family, ["b", "a"])), ("holds", []))
        self.assertEqual(decide(family, ["a"], [])[0], "fails")

    def test_one_side_taken_twice(self):
        family = Family(Stock({"a": line(1), "b": line(1)}), [(("a", 1),)])
        word, clashes = decide(family, ["a"], [[1]])
        self.assertEqual((word, clashes), ("holds", [([0], ("a", -1), ("a", -1), ([("a", -1), ("a", 1)], [0]))]))
        clashes[0][0].clear()
        clashes[0][3][0].clear()
        clashes.clear()
        self.assertEqual(len(decide(family, ["a"], [[1]])[1][0][3][0]), 2)

    def test_rows_that_are_none(self):
        stock = Stock({"a": line(1), "b": star(2)})
        for bonds in ([], [(("b", 1),), (("b", -1),)]):
            family = Family(stock, bonds)
            for row in ([], [2], [-1], [0, 0]):
                self.raises(BadRow, {"row": row}, decide, family, ["a"], [[0], row, [7]])
                self.raises(BadRow, {"row": row}, decide, family, ["a"], ((1,), tuple(row)))
            for row in ([0], [0, 3], [2, 1, 0], [-1, 0], [0, -1]):
                self.raises(BadRow, {"row": row}, decide, family, ["a", "b"], [row])
            self.raises(BadRow, {"row": [1, 2]}, decide, family, ["b", "a"], [[2, 1], [1, 2]])

    def test_nothing_that_is_passed_changes(self):
        family = Family(Stock({"a": line(1), "b": star(2)}), [(("a", 1), ("b", 1))])
        cells = ["b", "a"]
        rows = [[1, 0], [1, 0], [2, 1]]
        self.check(family, cells, rows)
        self.assertEqual((cells, rows), (["b", "a"], [[1, 0], [1, 0], [2, 1]]))
        error = self.raises(BadRow, {"row": [5]}, decide, family, ["a"], [[5]])
        error.row.clear()
        self.raises(BadRow, {"row": [5]}, decide, family, ["a"], [[5]])

    def test_large_claims(self):
        family = Family(Stock({name: line(8) for name in "abcd"}), [(("a", 4), ("c", -2))])
        rows = [list(row) for row in itertools.product(range(9), repeat=2) if row[0] >= 4 or row[1] < 2]
        word, clashes = decide(family, ["a", "c"], rows)
        self.assertEqual((word, len(clashes)), ("holds", 81 - len(rows)))
        self.assertEqual(decide(family, ["a", "c"], rows[1:])[0], "fails")


if __name__ == "__main__":
    unittest.main()
