import itertools
import random
import unittest

from by_definition import Case, every_past, families_with_past, families_without_past, is_chain, is_ring, other_side
from by_definition import row_has, sides, some_families

from everypast.errors import BadSide, NoPast
from everypast.families import Family
from everypast.shapes import line, star
from everypast.solving import solve, together
from everypast.stocks import Stock


class Solving(Case):
    def test_a_past_or_a_ring(self):
        found = {True: 0, False: 0}
        for family in some_families(400, seed=50, bonds=14):
            rows = every_past(family)
            found[bool(rows)] += 1
            if rows:
                row = solve(family)
                self.assertIs(type(row), list)
                self.assertIn(tuple(row), rows)
            else:
                with self.assertRaises(NoPast) as caught:
                    solve(family)
                self.assertTrue(is_ring(family, caught.exception.there, caught.exception.back))
        self.assertGreater(min(found.values()), 50)

    def test_many_bonds_and_few_pasts(self):
        for family in some_families(150, seed=51, cells=4, size=4, bonds=40):
            rows = every_past(family)
            if rows:
                self.assertIn(tuple(solve(family)), rows)
            else:
                with self.assertRaises(NoPast) as caught:
                    solve(family)
                self.assertTrue(is_ring(family, caught.exception.there, caught.exception.back))

    def test_without_bonds_and_without_cells(self):
        self.assertEqual(solve(Family(Stock({}), [])), [])
        self.assertEqual(together(Family(Stock({}), []), []), ("past", []))
        row = solve(Family(Stock({"a": star(3), "b": line(8)}), []))
        self.assertIn(row[0], range(4))
        self.assertIn(row[1], range(9))

    def test_bonds_that_leave_one_past(self):
        stock = Stock({"a": line(2), "b": star(2)})
        for row in itertools.product(range(3), range(3)):
            bonds = [(side,) for side in sides(stock) if row_has(stock, row, side)]
            self.assertEqual(solve(Family(stock, bonds)), list(row))
            self.assertEqual(solve(Family(stock, [bond * 2 for bond in bonds])), list(row))

    def test_large_families(self):
        stock = Stock({f"c{number}": line(8) for number in range(16)})
        dice = random.Random(52)
        row = [dice.randrange(9) for _ in range(16)]
        had = [side for side in sides(stock) if row_has(stock, row, side)]
        bonds = [(dice.choice(had), dice.choice(sides(stock))) for _ in range(2500)]
        family = Family(stock, bonds)
        self.assertIs(family.is_past(solve(family)), True)
        impossible = family.extended([(("c3", 4),), (("c3", -4),)])
        with self.assertRaises(NoPast) as caught:
            solve(impossible)
        self.assertTrue(is_ring(impossible, caught.exception.there, caught.exception.back))

    def test_lists_in_errors_and_returned_rows_are_new(self):
        family = Family(Stock({"a": line(1)}), [(("a", 1),), (("a", -1),)])
        for _ in range(2):
            with self.assertRaises(NoPast) as caught:
                solve(family)
            error = caught.exception
            self.assertTrue(is_ring(family, error.there, error.back))
            for path in (error.there, error.back):
                path[0].clear()
                path[1].clear()
        whole = Family(Stock({"a": line(1)}), [(("a", 1),)])
        solve(whole).clear()
        together(whole, [])[1].clear()
        self.assertEqual(solve(whole), [1])
        self.assertEqual(together(whole, []), ("past", [1]))


class Together(Case):
    def check(self, family, chosen):
        rows = [row for row in every_past(family) if all(row_has(family.stock, row, side) for side in chosen)]
        answer = together(family, chosen)
        if rows:
            self.assertEqual(answer[0], "past")
            self.assertEqual(len(answer), 2)
            self.assertIs(type(answer[1]), list)
            self.assertIn(tuple(answer[1]), rows)
        else:
            word, first, second, path = answer
            self.assertEqual(word, "apart")
            self.assertIn(first, chosen)
            self.assertIn(second, chosen)
            self.assertTrue(is_chain(family, path, first, other_side(second)))
        return bool(rows)

    def test_lists_of_sides(self):
        dice = random.Random(53)
        found = {True: 0, False: 0}
        for family in families_with_past(150, seed=54):
            self.assertTrue(self.check(family, []))
            for count in (1, 1, 2, 2, 3, 4, 12):
                chosen = [dice.choice(sides(family.stock)) for _ in range(count)]
                found[self.check(family, chosen)] += 1
        self.assertGreater(min(found.values()), 100)

    def test_all_pairs(self):
        for family in families_with_past(25, seed=55, cells=2):
            for first in sides(family.stock):
                self.check(family, [first])
                for second in sides(family.stock):
                    self.check(family, [first, second])

    def test_tuples_and_sides_several_times(self):
        family = Family(Stock({"a": line(2), "b": line(1)}), [(("a", 1), ("b", 1))])
        self.assertEqual(together(family, (("a", -1), ("a", -1))), ("past", [0, 1]))
        self.assertEqual(together(family, (("b", -1), ("a", 2))), ("past", [2, 0]))
        word, first, second, path = together(family, (("a", -1), ("b", -1), ("a", -1)))
        self.assertEqual(word, "apart")
        self.assertTrue(is_chain(family, path, first, other_side(second)))

    def test_an_impossible_side_is_taken_twice(self):
        family = Family(Stock({"a": line(2)}), [(("a", 1),)])
        answer = together(family, [("a", -1)])
        self.assertEqual(answer, ("apart", ("a", -1), ("a", -1), ([("a", -1), ("a", 1)], [0])))
        answer[3][0].clear()
        self.assertEqual(together(family, [("a", -1)])[3], ([("a", -1), ("a", 1)], [0]))

    def test_families_without_a_past(self):
        for family in families_without_past(100, seed=56):
            for chosen in ([], [sides(family.stock)[0]], sides(family.stock)[:2]):
                with self.assertRaises(NoPast) as caught:
                    together(family, chosen)
                self.assertTrue(is_ring(family, caught.exception.there, caught.exception.back))

    def test_wrong_sides_come_before_no_past(self):
        stock = Stock({"a": line(1), "b": line(2)})
        for bonds in ([], [(("b", 1),), (("b", -1),)]):
            family = Family(stock, bonds)
            for side in (("c", 1), ("a", 0), ("a", 2), ("a", -2), ("b", 3), ("b", -3)):
                self.raises(BadSide, {"side": side}, together, family, [("a", 1), side, ("z", 1)])
                self.raises(BadSide, {"side": side}, together, family, (side,))

    def test_nothing_that_is_passed_changes(self):
        family = Family(Stock({"a": line(2)}), [(("a", 1),)])
        chosen = [("a", 1), ("a", -2), ("a", 1)]
        together(family, chosen)
        self.assertEqual(chosen, [("a", 1), ("a", -2), ("a", 1)])
        self.assertEqual(family.bonds, ((("a", 1),),))


if __name__ == "__main__":
    unittest.main()
