import unittest

from by_definition import Case, are_near, every_past, every_row, families_with_past, families_without_past, open_sides
from by_definition import parting, row_has, sides, tied_families

from everypast import twins as program
from everypast.errors import BadPast, BadSide, NotOpen
from everypast.families import Family
from everypast.shapes import line, star
from everypast.stocks import Stock

FAMILIES = families_with_past(100, seed=340) + tied_families(100, seed=344)
TIED = Family(
    Stock({"a": line(2), "b": line(1), "c": line(1)}),
    [(("a", 1), ("b", 1)), (("a", -1), ("b", -1)), (("a", -2),)],
)


class Twins(Case):
    def test_near_twins_for_each_open_side(self):
        asked = 0
        for family in FAMILIES:
            for side in open_sides(family):
                found = program.near_twins(family, side)
                self.assertEqual([type(found), type(found[0]), type(found[1])], [tuple, list, list])
                without, with_side = found
                self.assertIn(tuple(without), every_past(family))
                self.assertIn(tuple(with_side), every_past(family))
                self.assertFalse(row_has(family.stock, without, side))
                self.assertTrue(row_has(family.stock, with_side, side))
                self.assertTrue(are_near(family, without, with_side))
                asked += 1
        self.assertGreater(asked, 500)

    def test_sides_that_are_not_open(self):
        asked = 0
        for family in FAMILIES:
            for side in sides(family.stock):
                if side not in open_sides(family):
                    self.raises(NotOpen, {"side": side}, program.near_twins, family, side)
                    asked += 1
        self.assertGreater(asked, 200)

    def test_what_is_near(self):
        seen = {True: 0, False: 0}
        for family in tied_families(60, seed=341, cells=2) + families_with_past(40, seed=345, cells=2):
            rows = every_past(family)
            for row in rows:
                for other in rows:
                    expected = are_near(family, row, other)
                    self.assertIs(program.are_near(family, list(row), other), expected)
                    seen[expected] += 1
        self.assertGreater(min(seen.values()), 200)

    def test_rows_that_are_no_pasts_are_not_near(self):
        self.assertIs(program.are_near(TIED, [0, 1, 0], [0, 1, 1]), True)
        self.assertIs(program.are_near(TIED, [0, 1, 0], [1, 0, 0]), True)
        self.assertIs(program.are_near(TIED, [0, 1, 0], [1, 0, 1]), False)
        self.assertIs(program.are_near(TIED, [0, 1, 0], [0, 1, 0]), False)
        for row in ([0, 0, 0], [0, 1], [], [0, 1, 2], [0, 1, -1], [0, 1, 0, 0]):
            self.assertIs(program.are_near(TIED, row, [0, 1, 0]), False)
            self.assertIs(program.are_near(TIED, [0, 1, 0], row), False)
        for family in families_without_past(40, seed=342):
            for row in every_row(family.stock)[:3]:
                self.assertIs(program.are_near(family, row, list(row)), False)

    def test_the_two_walls_of_one_tie(self):
        family = Family(Stock({"a": line(3)}), [(("a", -1), ("a", 2))])
        self.assertEqual(program.near_twins(family, ("a", 1)), ([0], [2]))
        self.assertEqual(program.near_twins(family, ("a", -2)), ([2], [0]))
        self.assertIs(program.are_near(family, [2], [0]), True)
        self.assertIs(program.are_near(family, [0], [3]), False)

    def test_errors_in_their_order(self):
        for family in families_without_past(60, seed=343):
            row = [0] * len(family.stock)
            self.raises_no_past(family, program.near_twins, family, sides(family.stock)[0])
            self.raises_no_past(family, program.trail, family, row, [])
            self.raises(BadSide, {"side": ("z", 1)}, program.near_twins, family, ("z", 1))
        for side in (("d", 1), ("a", 3), ("a", 0), ("b", -2)):
            self.raises(BadSide, {"side": side}, program.near_twins, TIED, side)
        for row in ([0, 0, 0], [2, 0, 0], [], [1, 0, 0, 0], [1, 0, 2], [-1, 1, 0]):
            self.raises(BadPast, {"row": row}, program.trail, TIED, row, [7])
            self.raises(BadPast, {"row": row}, program.trail, TIED, (1, 0, 0), tuple(row))


class Trails(Case):
    def check(self, family, start, goal):
        rows = program.trail(family, start, goal)
        self.assertIs(type(rows), list)
        self.assertTrue(all(type(row) is list for row in rows))
        self.assertEqual((rows[0], rows[-1]), (list(start), list(goal)))
        self.assertEqual(len(rows) - 1, len(parting(family, start, goal)))
        for row in rows:
            self.assertIn(tuple(row), every_past(family))
        for row, after in zip(rows, rows[1:]):
            self.assertTrue(are_near(family, row, after))
        return len(rows)

    def test_shortest_trails(self):
        lengths = []
        for family in FAMILIES[60:140]:
            rows = every_past(family)
            for start in rows[:3] + rows[-2:]:
                for goal in rows[:2] + rows[-3:]:
                    lengths.append(self.check(family, list(start), goal))
        self.assertGreater(len([length for length in lengths if length > 3]), 100)

    def test_a_trail_to_itself(self):
        for family in FAMILIES:
            for row in every_past(family)[:2]:
                self.assertEqual(program.trail(family, row, list(row)), [list(row)])
        self.assertEqual(program.trail(Family(Stock({}), []), [], []), [[]])

    def test_without_bonds(self):
        family = Family(Stock({"a": star(3), "b": line(3)}), [])
        for start in every_past(family):
            for goal in every_past(family):
                self.check(family, start, goal)

    def test_lists_are_new(self):
        start = [0, 1, 0]
        rows = program.trail(TIED, start, [1, 0, 1])
        for row in rows:
            row.clear()
        self.assertEqual(start, [0, 1, 0])
        self.check(TIED, start, [1, 0, 1])
        program.near_twins(TIED, ("c", 1))[0].clear()
        self.assertEqual(len(program.near_twins(TIED, ("c", 1))[0]), 3)
        error = self.raises(BadPast, {"row": [0, 0, 0]}, program.trail, TIED, [0, 0, 0], start)
        error.row.clear()
        self.raises(BadPast, {"row": [0, 0, 0]}, program.trail, TIED, [0, 0, 0], start)


class Middles(Case):
    def test_the_middle_parts_the_fewest_ties(self):
        # Point 33, for the ties and the middles of the program.
        from everypast.rows import middle_row
        from everypast.ties import parting_ties

        for family in FAMILIES[80:120]:
            rows = every_past(family)
            for chosen in (rows[:3], rows[-3:], [rows[0], rows[-1], rows[len(rows) // 2]], (rows * 5)[:5]):
                if len(chosen) % 2 == 0:
                    continue
                sums = {row: sum(len(parting_ties(family, row, other)) for other in chosen) for row in rows}
                best = [row for row in rows if sums[row] == min(sums.values())]
                self.assertEqual(best, [tuple(middle_row(family.stock, chosen))])


if __name__ == "__main__":
    unittest.main()
