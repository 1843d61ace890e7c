import random
import unittest

from by_definition import Case, every_past, families_with_past, families_without_past, is_chain, is_ring, keeps
from by_definition import other_side, row_has, sides

from everypast.claims import bond_holds, certain_sides, open_sides, settle, verdict
from everypast.errors import BadBond, BadSide, NoPast
from everypast.families import Family
from everypast.shapes import line, star
from everypast.stocks import Stock

WRONG_SIDES = (("c", 1), ("a", 0), ("a", 2), ("a", -2), ("b", 3), ("b", -3), ("", 1))


def word(family, side):
    having = [row_has(family.stock, row, side) for row in every_past(family)]
    return "certain" if all(having) else "open" if any(having) else "impossible"


class Verdicts(Case):
    def test_verdicts_about_all_sides(self):
        found = {"certain": 0, "impossible": 0, "open": 0}
        for family in families_with_past(200, seed=60):
            words = {side: word(family, side) for side in sides(family.stock)}
            for side in sides(family.stock):
                self.assertEqual(verdict(family, side), words[side])
                found[words[side]] += 1
            self.assertEqual(certain_sides(family), [side for side in words if words[side] == "certain"])
            self.assertEqual(open_sides(family), [side for side in words if words[side] == "open"])
        self.assertGreater(min(found.values()), 100)

    def test_without_bonds_and_without_cells(self):
        family = Family(Stock({"a": star(2), "b": line(2)}), [])
        self.assertEqual(certain_sides(family), [])
        self.assertEqual(open_sides(family), sides(family.stock))
        self.assertEqual(certain_sides(Family(Stock({}), [])), [])
        self.assertEqual(open_sides(Family(Stock({}), [])), [])

    def test_idle_bonds_settle_nothing(self):
        family = Family(Stock({"a": line(2)}), [(("a", 1), ("a", -2)), (("a", 1), ("a", -1))])
        self.assertEqual(open_sides(family), sides(family.stock))

    def test_families_without_a_past(self):
        families = families_without_past(150, seed=61)
        self.assertGreater(len(families), 10)
        for family in families:
            side = sides(family.stock)[-1]
            for call in (
                lambda: verdict(family, side), lambda: certain_sides(family), lambda: open_sides(family),
                lambda: bond_holds(family, (side,)), lambda: settle(family, []), lambda: settle(family, [side]),
            ):
                with self.assertRaises(NoPast) as caught:
                    call()
                self.assertTrue(is_ring(family, caught.exception.there, caught.exception.back))

    def test_wrong_sides_come_before_no_past(self):
        stock = Stock({"a": line(1), "b": line(2)})
        for bonds in ([], [(("b", 1),), (("b", -1),)]):
            family = Family(stock, bonds)
            for side in WRONG_SIDES:
                self.raises(BadSide, {"side": side}, verdict, family, side)
                self.raises(BadSide, {"side": side}, settle, family, [("a", 1), side, ("z", 1)])
                self.raises(BadSide, {"side": side}, settle, family, (side,))

    def test_returned_lists_are_new(self):
        family = Family(Stock({"a": line(2)}), [(("a", 1),)])
        certain_sides(family).clear()
        open_sides(family).clear()
        self.assertEqual(certain_sides(family), [("a", 1)])
        self.assertEqual(open_sides(family), [("a", 2), ("a", -2)])


class Bonds(Case):
    def test_bonds_that_hold(self):
        found = {True: 0, False: 0}
        for family in families_with_past(60, seed=62):
            rows = every_past(family)
            for first in sides(family.stock):
                self.assertIs(bond_holds(family, (first,)), all(row_has(family.stock, row, first) for row in rows))
                for second in sides(family.stock):
                    expected = all(keeps(family.stock, row, (first, second)) for row in rows)
                    self.assertIs(bond_holds(family, (first, second)), expected)
                    found[expected] += 1
        self.assertGreater(min(found.values()), 500)

    def test_bonds_with_a_certain_side(self):
        family = Family(Stock({"a": line(1), "b": line(1)}), [(("a", 1),)])
        for other in (("b", 1), ("b", -1), ("a", -1), ("a", 1)):
            self.assertIs(bond_holds(family, (("a", 1), other)), True)
            self.assertIs(bond_holds(family, (other, ("a", 1))), True)
        self.assertIs(bond_holds(family, (("b", 1), ("b", -1))), True)
        self.assertIs(bond_holds(family, (("b", 1), ("b", 1))), False)
        self.assertIs(bond_holds(family, (("a", -1), ("a", -1))), False)

    def test_wrong_bonds_come_before_no_past(self):
        stock = Stock({"a": line(1), "b": line(2)})
        for bonds in ([], [(("b", 1),), (("b", -1),)]):
            family = Family(stock, bonds)
            for bond in [(), (("a", 1),) * 3] + [(side,) for side in WRONG_SIDES]:
                self.raises(BadBond, {"place": 0}, bond_holds, family, bond)
            for side in WRONG_SIDES:
                self.raises(BadBond, {"place": 0}, bond_holds, family, (("a", 1), side))
                self.raises(BadBond, {"place": 0}, bond_holds, family, (side, ("a", 1)))


class Claims(Case):
    def check(self, family, claim):
        failing = [
            row
            for row in every_past(family)
            if not any(row_has(family.stock, row, side) for side in claim)
        ]
        answer = settle(family, claim)
        if failing:
            self.assertEqual(answer[0], "fails")
            self.assertEqual(len(answer), 2)
            self.assertIs(type(answer[1]), list)
            self.assertIn(tuple(answer[1]), failing)
        else:
            answered, first, second, path = answer
            self.assertEqual(answered, "holds")
            self.assertIn(first, claim)
            self.assertIn(second, claim)
            self.assertTrue(is_chain(family, path, other_side(first), second))
        return not failing

    def test_claims(self):
        dice = random.Random(63)
        found = {True: 0, False: 0}
        for family in families_with_past(150, seed=64):
            for count in (1, 1, 2, 2, 3, 4, 12):
                claim = [dice.choice(sides(family.stock)) for _ in range(count)]
                found[self.check(family, claim)] += 1
                self.check(family, tuple(claim))
        self.assertGreater(min(found.values()), 100)

    def test_all_claims_of_one_and_two_sides(self):
        for family in families_with_past(25, seed=65, cells=2):
            for first in sides(family.stock):
                self.check(family, [first])
                for second in sides(family.stock):
                    self.check(family, [first, second])

    def test_the_claim_without_sides_fails(self):
        for family in families_with_past(30, seed=66):
            self.assertFalse(self.check(family, []))
        self.assertEqual(settle(Family(Stock({}), []), ()), ("fails", []))

    def test_a_certain_side_is_taken_twice(self):
        family = Family(Stock({"a": line(2), "b": line(1)}), [(("a", 1),)])
        answer = settle(family, [("b", 1), ("a", 1)])
        self.assertEqual(answer, ("holds", ("a", 1), ("a", 1), ([("a", -1), ("a", 1)], [0])))
        answer[3][0].clear()
        answer[3][1].clear()
        self.assertEqual(settle(family, [("a", 1)])[3], ([("a", -1), ("a", 1)], [0]))

    def test_a_wall_always_holds(self):
        family = Family(Stock({"a": line(2)}), [])
        answered, first, second, path = settle(family, [("a", 2), ("a", -2)])
        self.assertEqual((answered, {first, second}), ("holds", {("a", 2), ("a", -2)}))
        self.assertEqual(path, ([second], []))

    def test_nothing_that_is_passed_changes(self):
        family = Family(Stock({"a": line(2)}), [(("a", 1),)])
        claim = [("a", 1), ("a", -2), ("a", 1)]
        settle(family, claim)
        self.assertEqual(claim, [("a", 1), ("a", -2), ("a", 1)])
        found = settle(family, [("a", 2)])
        found[1].clear()
        self.assertEqual(settle(family, [("a", 2)]), ("fails", [1]))


if __name__ == "__main__":
    unittest.main()
