import random
import unittest

from by_definition import Case, every_past, families_with_past, families_without_past, is_chain, other_side, row_has
from by_definition import sides, tied_families, walls_apart

from everypast.errors import BadPast, BadSide, NotTogether
from everypast.families import Family
from everypast.news import news
from everypast.shapes import line, star
from everypast.stocks import Stock

FAMILIES = families_with_past(120, seed=360) + tied_families(80, seed=361)


class News(Case):
    def check(self, family, row, chosen):
        rows = [past for past in every_past(family) if all(row_has(family.stock, past, side) for side in chosen)]
        if not rows:
            error = self.raises(NotTogether, {}, news, family, row, chosen)
            self.assertIn(error.first, chosen)
            self.assertIn(error.second, chosen)
            self.assertTrue(is_chain(family, error.chain, error.first, other_side(error.second)))
            return None
        apart = {past: walls_apart(family.stock, row, past) for past in rows}
        least = min(len(walls) for walls in apart.values())
        best = [past for past in rows if len(apart[past]) == least]
        self.assertEqual(len(best), 1)
        nearest, changes = news(family, row, chosen)
        self.assertIs(type(nearest), list)
        self.assertEqual(nearest, list(best[0]))
        self.assertIs(type(changes), list)
        self.assertEqual([(side[0], abs(side[1])) for side, _, _ in changes], apart[best[0]])
        for side, giver, path in changes:
            self.assertTrue(row_has(family.stock, nearest, side))
            self.assertIn(giver, chosen)
            self.assertTrue(is_chain(family, path, giver, side))
        return len(changes)

    def test_news(self):
        dice = random.Random(362)
        seen = []
        for family in FAMILIES:
            rows = every_past(family)
            for count in (0, 1, 1, 2, 3, 12):
                row = dice.choice(rows)
                seen.append(self.check(family, list(row), [dice.choice(sides(family.stock)) for _ in range(count)]))
                told = dice.choice(rows)
                true = [side for side in sides(family.stock) if row_has(family.stock, told, side)]
                seen.append(self.check(family, row, tuple(dice.choice(true) for _ in range(min(count, 2)))))
        self.assertGreater(len([count for count in seen if count is None]), 100)
        self.assertGreater(len([count for count in seen if count is not None and count > 1]), 100)

    def test_without_news_and_with_what_is_so_already(self):
        for family in FAMILIES[::3]:
            for row in every_past(family)[:3]:
                had = [side for side in sides(family.stock) if row_has(family.stock, row, side)]
                self.assertEqual(news(family, row, []), (list(row), []))
                self.assertEqual(news(family, list(row), had), (list(row), []))
        self.assertEqual(news(Family(Stock({}), []), [], []), ([], []))

    def test_an_impossible_side_is_taken_twice(self):
        family = Family(Stock({"a": line(2)}), [(("a", 1),)])
        for _ in range(2):
            error = self.raises(NotTogether, {}, news, family, [2], [("a", -1)])
            self.assertEqual((error.first, error.second), (("a", -1), ("a", -1)))
            self.assertEqual(error.chain, ([("a", -1), ("a", 1)], [0]))
            error.chain[0].clear()
            error.chain[1].clear()

    def test_errors_in_their_order(self):
        stock = Stock({"a": line(1), "b": star(2)})
        for bonds in ([], [(("b", 1),), (("b", -1),)]):
            family = Family(stock, bonds)
            for side in (("c", 1), ("a", 0), ("a", 2), ("b", -3)):
                self.raises(BadSide, {"side": side}, news, family, [9], [("a", 1), side, ("z", 1)])
        for family in families_without_past(60, seed=363):
            side = sides(family.stock)[0]
            self.raises_no_past(family, news, family, [], [])
            self.raises_no_past(family, news, family, [0] * len(family.stock), [side, other_side(side)])
        family = Family(stock, [(("a", 1),)])
        for row in ([0, 0], [], [1], [1, 3], [1, -1], [1, 0, 0], (0, 1)):
            for chosen in ([], [("a", -1)], [("b", 1), ("b", 2)]):
                self.raises(BadPast, {"row": list(row)}, news, family, row, chosen)
        self.raises(NotTogether, {}, news, family, [1, 0], [("b", 1), ("b", 2)])

    def test_nothing_that_is_passed_or_returned_is_kept(self):
        family = Family(Stock({"a": line(2), "b": line(1)}), [(("a", -1), ("b", 1))])
        row = [0, 0]
        chosen = [("a", 1)]
        for _ in range(2):
            nearest, changes = news(family, row, chosen)
            self.assertEqual(nearest, [1, 1])
            self.assertEqual(changes, [
                (("a", 1), ("a", 1), ([("a", 1)], [])), (("b", 1), ("a", 1), ([("a", 1), ("b", 1)], [0])),
            ])
            nearest.clear()
            changes[1][2][0].clear()
            changes.clear()
        self.assertEqual((row, chosen), ([0, 0], [("a", 1)]))


if __name__ == "__main__":
    unittest.main()
