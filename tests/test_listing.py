import inspect
import random
import unittest

from by_definition import Case, every_past, families_with_past, families_without_past, row_has, sides, some_families

from everypast.errors import BadPast
from everypast.families import Family
from everypast.listing import count_pasts, first_past, next_past, pasts
from everypast.shapes import line, star
from everypast.stocks import Stock

NONE = Family(Stock({"a": line(1), "b": line(2)}), [(("b", 1),), (("b", -1),)])


class Steps(Case):
    def test_first_and_next_pasts(self):
        for family in families_with_past(250, seed=310, cells=4, size=2):
            rows = [list(row) for row in every_past(family)]
            self.assertEqual(first_past(family), rows[0])
            for row, after in zip(rows, rows[1:]):
                self.assertEqual(next_past(family, row), after)
                self.assertEqual(next_past(family, tuple(row)), after)
            self.assertIsNone(next_past(family, rows[-1]))

    def test_edges(self):
        self.assertEqual(first_past(Family(Stock({}), [])), [])
        self.assertIsNone(next_past(Family(Stock({}), []), []))
        free = Family(Stock({"a": star(2), "b": line(2)}), [])
        self.assertEqual(first_past(free), [0, 0])
        self.assertEqual(next_past(free, [0, 2]), [1, 0])
        self.assertIsNone(next_past(free, [2, 2]))
        single = Family(Stock({"a": line(2), "b": line(1)}), [(("a", 2),), (("b", -1), ("b", -1)), (("a", 2),)])
        self.assertEqual(first_past(single), [2, 0])
        self.assertIsNone(next_past(single, [2, 0]))

    def test_no_past_comes_before_wrong_rows(self):
        for row in ([0, 0], [], [5, 5]):
            self.raises_no_past(NONE, next_past, NONE, row)
        for family in families_without_past(60, seed=311):
            self.raises_no_past(family, first_past, family)
            self.raises_no_past(family, next_past, family, [0] * len(family.stock))

    def test_what_is_no_past(self):
        family = Family(Stock({"a": line(1), "b": line(2)}), [(("a", 1),)])
        for row in ([], [1], [0, 0], [1, 3], [1, -1], [2, 0], [1, 0, 0], (0, 2)):
            error = self.raises(BadPast, {"row": list(row)}, next_past, family, row)
            error.row.clear()
            self.raises(BadPast, {"row": list(row)}, next_past, family, row)

    def test_rows_are_new_and_not_changed(self):
        family = Family(Stock({"a": line(1), "b": line(2)}), [(("a", 1),)])
        first_past(family).clear()
        row = first_past(family)
        self.assertEqual(row, [1, 0])
        after = next_past(family, row)
        after.clear()
        self.assertEqual(row, [1, 0])
        self.assertEqual(next_past(family, row), [1, 1])


class Lists(Case):
    def test_pasts_in_ascending_order(self):
        for family in some_families(200, seed=312, cells=4, size=2):
            rows = [list(row) for row in every_past(family)]
            for limit in sorted({0, 1, len(rows) - 1, len(rows), len(rows) + 1, 200} - {-1}):
                self.assertEqual(list(pasts(family, limit=limit)), rows[:limit])
                self.assertEqual(count_pasts(family, limit=limit), min(limit, len(rows)))

    def test_limits_that_are_not_given(self):
        free = Family(Stock({name: line(2) for name in "abcd"}), [])
        rows = [list(row) for row in every_past(free)]
        self.assertEqual(list(pasts(free)), rows[:20])
        self.assertEqual(count_pasts(free), 50)
        few = free.extended([(("a", 2),), (("b", 2),), (("c", 1),)])
        self.assertEqual(list(pasts(few)), [[2, 2, high, low] for high in (1, 2) for low in (0, 1, 2)])
        self.assertEqual(count_pasts(few), 6)
        self.assertEqual(count_pasts(free, limit=200), 81)

    def test_one_past_and_none(self):
        single = Family(Stock({"a": star(2)}), [(("a", 2),)])
        self.assertEqual((list(pasts(single)), count_pasts(single)), ([[2]], 1))
        self.assertEqual((list(pasts(single, limit=0)), count_pasts(single, limit=0)), ([], 0))
        empty = Family(Stock({}), [])
        self.assertEqual((list(pasts(empty)), count_pasts(empty)), ([[]], 1))
        self.assertEqual((list(pasts(empty, limit=0)), count_pasts(empty, limit=1)), ([], 1))
        self.assertEqual((list(pasts(NONE)), count_pasts(NONE)), ([], 0))
        for family in families_without_past(60, seed=313):
            self.assertEqual((list(pasts(family)), count_pasts(family)), ([], 0))

    def test_it_is_a_generator_of_new_lists(self):
        family = Family(Stock({"a": line(2), "b": line(1)}), [])
        found = pasts(family)
        self.assertTrue(inspect.isgenerator(found))
        seen = []
        for row in found:
            seen.append(tuple(row))
            row.clear()
        self.assertEqual(seen, every_past(family))
        self.assertEqual(next(pasts(family)), [0, 0])

    def test_a_large_family(self):
        stock = Stock({f"c{number}": line(8) for number in range(16)})
        dice = random.Random(314)
        row = [dice.randrange(9) for _ in range(16)]
        had = [side for side in sides(stock) if row_has(stock, row, side)]
        family = Family(stock, [(dice.choice(had), dice.choice(sides(stock))) for _ in range(500)])
        found = list(pasts(family, limit=200))
        self.assertEqual(found, sorted(found))
        self.assertEqual(len(found), len({tuple(past) for past in found}))
        self.assertTrue(all(family.is_past(past) for past in found))
        self.assertEqual(count_pasts(family, limit=200), len(found))


if __name__ == "__main__":
    unittest.main()
