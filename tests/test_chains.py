import unittest

from by_definition import Case, every_past, is_chain, other_side, row_has, sides, some_families, step_counts, steps

from everypast.chains import chain, reached, steps_from, turned
from everypast.errors import BadSide
from everypast.families import Family
from everypast.shapes import Shape, line, star
from everypast.stocks import Stock

FAMILIES = some_families(60, seed=30) + [
    Family(Stock({"a": line(1)}), []),
    Family(Stock({"a": line(4), "b": star(4)}), []),
]


class Steps(Case):
    def test_steps_by_their_definition_and_in_order(self):
        for family in FAMILIES:
            listed = sides(family.stock)
            for side in listed:
                found = steps_from(family, side)
                self.assertIs(type(found), list)
                expected = sorted(steps(family, side), key=lambda step: (listed.index(step[0]), step[1]))
                self.assertEqual(found, expected)

    def test_each_kind_of_bond(self):
        stock = Stock({"a": line(2), "b": line(1)})
        plus, minus = ("b", 1), ("b", -1)
        for bonds, side, expected in (
            ([(plus,)], minus, [(plus, 0)]),
            ([(plus,)], plus, []),
            ([(plus, plus)], minus, [(plus, 0)]),
            ([(plus, minus)], minus, []),
            ([(minus, plus)], plus, []),
            ([(("a", 2), plus)], minus, [(("a", 2), 0)]),
            ([(plus, ("a", 2))], minus, [(("a", 2), 0)]),
            ([(plus, ("a", 2))], ("a", -2), [(plus, 0)]),
            ([(plus, ("a", 2)), (plus,), (("a", 2), plus)], minus, [(("a", 2), 0), (("a", 2), 2), (plus, 1)]),
            ([(("a", -2), ("a", 1))], ("a", 2), [(("a", 1), -1), (("a", 1), 0)]),
            ([(("a", 1), ("a", 2))], ("a", -1), [(("a", 2), 0), (("a", -2), -1)]),
        ):
            self.assertEqual(steps_from(Family(stock, bonds), side), expected)

    def test_a_past_that_has_a_side_has_the_targets_of_its_steps(self):
        for family in FAMILIES:
            for side in sides(family.stock):
                for row in every_past(family):
                    if row_has(family.stock, row, side):
                        for target, _ in steps_from(family, side):
                            self.assertTrue(row_has(family.stock, row, target))


class Chains(Case):
    def test_shortest_chains_between_all_sides(self):
        found = {True: 0, False: 0}
        for family in FAMILIES:
            for start in sides(family.stock):
                counts = step_counts(family, start)
                for goal in sides(family.stock):
                    path = chain(family, start, goal)
                    found[goal in counts] += 1
                    if goal in counts:
                        self.assertTrue(is_chain(family, path, start, goal))
                        self.assertEqual(len(path[1]), counts[goal])
                    else:
                        self.assertIsNone(path)
        self.assertGreater(min(found.values()), 1000)

    def test_reached_sides_in_order(self):
        for family in FAMILIES:
            for start in sides(family.stock):
                counts = step_counts(family, start)
                self.assertEqual(reached(family, start), [side for side in sides(family.stock) if side in counts])

    def test_each_side_leads_to_itself(self):
        for family in FAMILIES:
            for side in sides(family.stock):
                self.assertEqual(chain(family, side, side), ([side], []))
                self.assertIn(side, reached(family, side))

    def test_families_without_bonds_lead_only_inside(self):
        family = Family(Stock({"a": line(3), "b": star(3)}), [])
        self.assertEqual(reached(family, ("a", 2)), [("a", 1), ("a", 2)])
        self.assertEqual(reached(family, ("a", -2)), [("a", -2), ("a", -3)])
        self.assertEqual(reached(family, ("b", 2)), [("b", -1), ("b", 2), ("b", -3)])
        self.assertEqual(reached(family, ("b", -2)), [("b", -2)])
        self.assertEqual(chain(family, ("a", 3), ("a", 1)), ([("a", 3), ("a", 1)], [-1]))
        self.assertIsNone(chain(family, ("a", 1), ("b", 1)))

    def test_large_families(self):
        stock = Stock({f"c{number}": line(8) for number in range(16)})
        links = [((f"c{number}", -8), (f"c{number + 1}", 8)) for number in range(15)]
        family = Family(stock, links * 166)
        path = chain(family, ("c0", 8), ("c15", 1))
        self.assertEqual(len(path[1]), 16)
        self.assertEqual(path[0][0], ("c0", 8))
        self.assertEqual(path[0][-1], ("c15", 1))
        self.assertEqual(len(reached(family, ("c0", 8))), 128)

    def test_turned_chains(self):
        for family in FAMILIES[:30]:
            for start in sides(family.stock):
                for goal in sides(family.stock):
                    path = chain(family, start, goal)
                    if path is not None:
                        back = turned(path)
                        self.assertTrue(is_chain(family, back, other_side(goal), other_side(start)))
                        self.assertEqual(back[1], path[1][::-1])
                        self.assertEqual(turned(back), path)
        self.assertEqual(turned(([("a", 1)], [])), ([("a", -1)], []))

    def test_turning_changes_nothing_and_takes_tuples(self):
        path = ([("a", 2), ("b", -1)], [3])
        back = turned(path)
        self.assertEqual(back, ([("b", 1), ("a", -2)], [3]))
        back[0].clear()
        back[1].append(4)
        self.assertEqual(path, ([("a", 2), ("b", -1)], [3]))
        self.assertEqual(turned(((("a", 2), ("b", -1)), (3,))), ([("b", 1), ("a", -2)], [3]))

    def test_returned_lists_are_new(self):
        family = Family(Stock({"a": Shape([0, 1])}), [(("a", 1),)])
        for call in (lambda: steps_from(family, ("a", -1)), lambda: reached(family, ("a", -1))):
            before = list(call())
            call().clear()
            self.assertEqual(call(), before)
        chain(family, ("a", -1), ("a", 1))[0].clear()
        chain(family, ("a", -1), ("a", 1))[1].clear()
        self.assertEqual(chain(family, ("a", -1), ("a", 1)), ([("a", -1), ("a", 1)], [0]))

    def test_wrong_sides(self):
        family = Family(Stock({"a": line(1), "b": line(2)}), [(("a", 1),), (("a", -1),)])
        for side in (("c", 1), ("a", 0), ("a", 2), ("a", -2), ("b", 3), ("b", -3), ("", 1)):
            self.raises(BadSide, {"side": side}, steps_from, family, side)
            self.raises(BadSide, {"side": side}, reached, family, side)
            self.raises(BadSide, {"side": side}, chain, family, side, ("z", 9))
            self.raises(BadSide, {"side": side}, chain, family, ("a", 1), side)
        self.raises(BadSide, {"side": ("a", 1)}, reached, Family(Stock({}), []), ("a", 1))


if __name__ == "__main__":
    unittest.main()
