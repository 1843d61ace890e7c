import unittest

from by_definition import Case, every_past, families_with_past, families_without_past, open_sides, parting, sides, ties
from by_definition import other_side, tied_families

from everypast import ties as program
from everypast.errors import BadPast, BadSide, NotOpen
from everypast.families import Family
from everypast.shapes import line
from everypast.stocks import Stock

FAMILIES = families_with_past(120, seed=330) + tied_families(200, seed=332)
# Here a has its first side exactly if b has not, and c stands alone.
TIED = Family(
    Stock({"a": line(2), "b": line(1), "c": line(1)}),
    [(("a", 1), ("b", 1)), (("a", -1), ("b", -1)), (("a", -2),)],
)


class Ties(Case):
    def test_listed_ties(self):
        lengths = []
        for family in FAMILIES:
            found = program.ties(family)
            self.assertEqual(found, ties(family))
            lengths.extend([len(tie) for tie in found])
        self.assertGreater(len([length for length in lengths if length > 1]), 100)
        self.assertGreater(lengths.count(1), 100)

    def test_ties_of_sides(self):
        seen = {"open": 0, "opposite": 0, "not open": 0}
        for family in FAMILIES:
            listed = ties(family)
            for side in sides(family.stock):
                if side not in open_sides(family):
                    self.raises(NotOpen, {"side": side}, program.tie_of, family, side)
                    seen["not open"] += 1
                    continue
                own = [tie for tie in listed if side in tie]
                away = [tie for tie in listed if other_side(side) in tie]
                self.assertEqual(len(own) + len(away), 1)
                order = sides(family.stock)
                turned = [sorted([other_side(other) for other in tie], key=order.index) for tie in away]
                self.assertEqual(program.tie_of(family, side), (own + turned)[0])
                seen["open" if own else "opposite"] += 1
        self.assertGreater(min(seen.values()), 200)

    def test_parting_ties(self):
        counts = []
        for family in FAMILIES[60:140]:
            rows = every_past(family)
            for row in rows[:4]:
                for other in rows[-4:]:
                    found = program.parting_ties(family, list(row), other)
                    self.assertEqual(found, parting(family, row, other))
                    counts.append(len(found))
        self.assertGreater(counts.count(0), 20)
        self.assertGreater(len([count for count in counts if count > 2]), 50)

    def test_an_opposite_tie_with_a_positive_side(self):
        self.assertEqual(program.ties(TIED), [[("a", 1), ("b", -1)], [("c", 1)]])
        self.assertEqual(program.tie_of(TIED, ("b", 1)), [("a", -1), ("b", 1)])
        self.assertEqual(program.tie_of(TIED, ("c", -1)), [("c", -1)])
        self.assertEqual(program.parting_ties(TIED, [0, 1, 0], [1, 0, 0]), [[("a", 1), ("b", -1)]])
        self.assertEqual(program.parting_ties(TIED, [0, 1, 1], [0, 1, 1]), [])

    def test_edges(self):
        self.assertEqual(program.ties(Family(Stock({}), [])), [])
        self.assertEqual(program.parting_ties(Family(Stock({}), []), [], []), [])
        single = Family(Stock({"a": line(2)}), [(("a", 1),), (("a", -2),)])
        self.assertEqual(program.ties(single), [])
        self.assertEqual(program.parting_ties(single, [1], (1,)), [])
        free = Family(Stock({"a": line(2)}), [])
        self.assertEqual(program.ties(free), [[("a", 1)], [("a", 2)]])
        idle = Family(Stock({"a": line(2)}), [(("a", 1), ("a", -2)), (("a", 1), ("a", -1))] * 2)
        self.assertEqual(program.ties(idle), [[("a", 1)], [("a", 2)]])
        # A tie of two walls of one cell.
        both = Family(Stock({"a": line(2)}), [(("a", -1), ("a", 2))])
        self.assertEqual(program.ties(both), [[("a", 1), ("a", 2)]])
        self.assertEqual(program.tie_of(both, ("a", -2)), [("a", -1), ("a", -2)])

    def test_errors_in_their_order(self):
        for family in families_without_past(60, seed=331):
            row = [0] * len(family.stock)
            self.raises_no_past(family, program.ties, family)
            self.raises_no_past(family, program.tie_of, family, sides(family.stock)[0])
            self.raises_no_past(family, program.parting_ties, family, row, row)
            self.raises_no_past(family, program.parting_ties, family, [], [9] * 20)
            self.raises(BadSide, {"side": ("z", 1)}, program.tie_of, family, ("z", 1))
        for side in (("d", 1), ("a", 3), ("a", 0), ("b", -2)):
            self.raises(BadSide, {"side": side}, program.tie_of, TIED, side)
        for side in (("a", 2), ("a", -2)):
            self.raises(NotOpen, {"side": side}, program.tie_of, TIED, side)
        for row in ([0, 0, 0], [2, 0, 0], [], [1, 0, 0, 0], [1, 0, 2], [-1, 1, 0]):
            self.raises(BadPast, {"row": row}, program.parting_ties, TIED, row, [1, 0, 0])
            self.raises(BadPast, {"row": row}, program.parting_ties, TIED, (1, 0, 0), tuple(row))
            self.raises(BadPast, {"row": row}, program.parting_ties, TIED, row, [7])

    def test_returned_lists_are_new(self):
        for _ in range(2):
            found = program.ties(TIED)
            self.assertEqual(found, [[("a", 1), ("b", -1)], [("c", 1)]])
            found[0].clear()
            found.clear()
            tie = program.tie_of(TIED, ("a", 1))
            self.assertEqual(tie, [("a", 1), ("b", -1)])
            tie.clear()
            apart = program.parting_ties(TIED, [0, 1, 0], [1, 0, 0])
            self.assertEqual(apart, [[("a", 1), ("b", -1)]])
            apart[0].clear()


if __name__ == "__main__":
    unittest.main()
