import random
import unittest

from by_definition import Case, are_near, every_past, families_with_past, families_without_past, is_chain, open_sides
from by_definition import other_side, parents_of, row_has, sides, tied_families, ties

from everypast.errors import BadCost, BadLook, BadSide, NotOpen, NotTogether, UnknownName
from everypast.families import Family
from everypast.looks import best_look, gained, least_yield, outcomes, settles
from everypast.shapes import line, star
from everypast.stocks import Stock

FAMILIES = families_with_past(100, seed=370) + tied_families(80, seed=371)
STOCK = Stock({"a": line(1), "b": star(2)})
NO_LOOKS = (
    (), ("cell",), ("a",), ("cell", "c"), ("cell", ""), ("cell", 1), ("cell", ("a",)), ("cell", "a", 1), ("wall", "a"),
    ("wall", "a", 0), ("wall", "a", -1), ("wall", "a", 2), ("wall", "b", 3), ("wall", "c", 1), ("wall", 1, "a"),
    ("wall", "a", "a"), ("wall", "a", 1, 1), ("wall", "a", 1, "b", "b"), ("look", "a"), ("look", "a", 1), (1, "a"),
    (1, 2, 3), ("a", "cell"), ("wall", ("a", 1), 1), ("", ""), ("cell", "cell"), (("cell",), "a"),
)


def all_looks(family):
    cells = [("cell", name) for name in family.stock.names]
    return cells + [("wall", *side) for side in sides(family.stock) if side[1] > 0]


def shown(family, look, row):
    """What a look shows of a row: the position of the cell, or the number of the side of the wall."""
    if look[0] == "cell":
        return row[family.stock.names.index(look[1])]
    return look[2] if row_has(family.stock, row, look[1:]) else -look[2]


def walls_open(family, rows):
    """The walls of which some of the rows have one side and others the other one."""
    return {
        side
        for side in sides(family.stock)
        if side[1] > 0 and len({row_has(family.stock, row, side) for row in rows}) == 2
    }


def outcomes_of(family, look):
    """The outcomes with their yields, word by word: the walls that are not open any more among what is left."""
    rows = every_past(family)
    if look[0] == "cell":
        order = range(len(parents_of(family.stock, look[1])) + 1)
    else:
        order = (look[2], -look[2])
    found = []
    for outcome in order:
        left = [row for row in rows if shown(family, look, row) == outcome]
        if left:
            found.append((outcome, len(walls_open(family, rows)) - len(walls_open(family, left))))
    return found


class Settling(Case):
    def check(self, family, looks, side):
        rows = every_past(family)
        views = {row: [shown(family, look, row) for look in looks] for row in rows}
        settled = all(
            row_has(family.stock, row, side) == row_has(family.stock, other, side)
            for row in rows
            for other in rows
            if views[row] == views[other]
        )
        answer = settles(family, looks, side)
        if settled:
            word, told = answer
            self.assertEqual(word, "settles")
            tie = [tie for tie in ties(family) if side in tie or other_side(side) in tie][0]
            self.assertEqual(told in tie, side in tie)
            self.assertEqual(other_side(told) in tie, side not in tie)
            wall = (told[0], abs(told[1]))
            self.assertTrue(("cell", told[0]) in list(looks) or ("wall", *wall) in list(looks))
        else:
            word, without, with_side = answer
            self.assertEqual(word, "twins")
            self.assertEqual((type(without), type(with_side)), (list, list))
            self.assertEqual(views[tuple(without)], views[tuple(with_side)])
            self.assertFalse(row_has(family.stock, without, side))
            self.assertTrue(row_has(family.stock, with_side, side))
            self.assertTrue(are_near(family, without, with_side))
        return settled

    def test_lists_of_looks(self):
        dice = random.Random(372)
        seen = {True: 0, False: 0}
        for family in FAMILIES:
            for side in open_sides(family)[:6]:
                for count in (0, 1, 2, 3):
                    looks = [dice.choice(all_looks(family)) for _ in range(count)]
                    seen[self.check(family, looks, side)] += 1
                    self.check(family, tuple(looks + looks), side)
        self.assertGreater(min(seen.values()), 300)

    def test_looks_at_a_cell_and_at_a_wall(self):
        family = Family(STOCK, [(("a", 1), ("b", 1)), (("a", -1), ("b", -1))])
        self.assertIn(settles(family, [("cell", "b")], ("a", -1)), [("settles", ("b", 1))])
        self.assertEqual(settles(family, [("wall", "b", 1)], ("a", 1)), ("settles", ("b", -1)))
        self.assertEqual(settles(family, [("wall", "b", 2), ("wall", "a", 1)], ("a", 1)), ("settles", ("a", 1)))
        word, without, with_side = settles(family, [("wall", "b", 2), ("wall", "b", 2)], ("a", 1))
        self.assertEqual((word, without, with_side), ("twins", [0, 1], [1, 0]))
        without.clear()
        self.assertEqual(settles(family, [], ("a", 1))[1], [0, 1])

    def test_errors_in_their_order(self):
        for bonds in ([], [(("b", 1),), (("b", -1),)]):
            family = Family(STOCK, bonds)
            for look in NO_LOOKS:
                self.raises(BadLook, {"place": 1}, settles, family, [("cell", "a"), look, ()], ("z", 1))
                self.raises(BadLook, {"place": 0}, settles, family, (look,), ("a", 1))
                self.raises(BadLook, {"place": 0}, outcomes, family, look)
                self.raises(BadLook, {"place": 0}, least_yield, family, look)
                self.raises(BadLook, {"place": 2}, best_look, family, [("wall", "b", 2)] * 2 + [look], [0])
            for side in (("c", 1), ("a", 0), ("a", 2), ("b", -3)):
                self.raises(BadSide, {"side": side}, settles, family, [], side)
        for family in families_without_past(50, seed=373):
            look = all_looks(family)[-1]
            self.raises_no_past(family, settles, family, [], sides(family.stock)[0])
            self.raises_no_past(family, settles, family, [look], sides(family.stock)[0])
            self.raises_no_past(family, outcomes, family, look)
            self.raises_no_past(family, least_yield, family, look)
            self.raises_no_past(family, best_look, family, [], [])
            self.raises_no_past(family, best_look, family, [look], [1])
            self.raises_no_past(family, gained, family, [])
        for family in FAMILIES:
            for side in sides(family.stock):
                if side not in open_sides(family):
                    self.raises(NotOpen, {"side": side}, settles, family, all_looks(family), side)


class Gained(Case):
    def check(self, family, chosen):
        rows = every_past(family)
        left = [row for row in rows if all(row_has(family.stock, row, side) for side in chosen)]
        if not left:
            error = self.raises(NotTogether, {}, gained, family, chosen)
            self.assertIn(error.first, chosen)
            self.assertIn(error.second, chosen)
            self.assertTrue(is_chain(family, error.chain, error.first, other_side(error.second)))
            return None
        loose = open_sides(family)
        expected = [side for side in loose if all(row_has(family.stock, row, side) for row in left)]
        found = gained(family, chosen)
        self.assertEqual([side for side, _, _ in found], expected)
        for side, giver, path in found:
            self.assertIn(giver, chosen)
            self.assertTrue(is_chain(family, path, giver, side))
        return len(found)

    def test_lists_of_sides(self):
        dice = random.Random(374)
        seen = []
        for family in FAMILIES:
            self.assertEqual(gained(family, []), [])
            for count in (1, 1, 2, 3, 12):
                seen.append(self.check(family, [dice.choice(sides(family.stock)) for _ in range(count)]))
            row = dice.choice(every_past(family))
            had = [side for side in sides(family.stock) if row_has(family.stock, row, side)]
            seen.append(self.check(family, tuple(dice.choice(had) for _ in range(3))))
        self.assertGreater(len([count for count in seen if count is None]), 100)
        self.assertGreater(len([count for count in seen if count is not None and count > 2]), 100)

    def test_what_was_certain_is_not_gained(self):
        family = Family(STOCK, [(("a", 1),), (("a", -1), ("b", -1))])
        self.assertEqual(gained(family, [("a", 1), ("b", -1)]), [])
        self.assertEqual(gained(family, [("a", 1), ("b", 2)]), [(("b", 2), ("b", 2), ([("b", 2)], []))])

    def test_errors_in_their_order(self):
        for bonds in ([], [(("b", 1),), (("b", -1),)]):
            for side in (("c", 1), ("a", 0), ("a", 2), ("b", -3)):
                self.raises(BadSide, {"side": side}, gained, Family(STOCK, bonds), [("a", 1), ("a", -1), side])
        for family in families_without_past(50, seed=375):
            side = sides(family.stock)[0]
            self.raises_no_past(family, gained, family, [side, other_side(side)])

    def test_lists_are_new(self):
        family = Family(STOCK, [])
        for _ in range(2):
            found = gained(family, [("b", 1)])
            self.assertEqual(found, [
                (("b", 1), ("b", 1), ([("b", 1)], [])), (("b", -2), ("b", 1), ([("b", 1), ("b", -2)], [-1])),
            ])
            found[1][2][0].clear()
            found[1][2][1].clear()
            found.clear()


class Yields(Case):
    def test_outcomes_and_least_yields(self):
        for family in FAMILIES:
            for look in all_looks(family):
                expected = outcomes_of(family, look)
                self.assertEqual(outcomes(family, look), expected)
                self.assertEqual(least_yield(family, look), min(gain for _, gain in expected))

    def test_edges(self):
        free = Family(STOCK, [])
        self.assertEqual(outcomes(free, ("cell", "b")), [(0, 2), (1, 2), (2, 2)])
        self.assertEqual(outcomes(free, ("wall", "b", 1)), [(1, 2), (-1, 1)])
        self.assertEqual(least_yield(free, ("wall", "b", 1)), 1)
        known = free.extended([(("a", -1),)])
        self.assertEqual(outcomes(known, ("wall", "a", 1)), [(-1, 0)])
        self.assertEqual(outcomes(known, ("cell", "a")), [(0, 0)])
        self.assertEqual(least_yield(known, ("cell", "a")), 0)
        outcomes(free, ("cell", "b")).clear()
        self.assertEqual(len(outcomes(free, ("cell", "b"))), 3)

    def test_best_looks(self):
        dice = random.Random(376)
        seen = {True: 0, False: 0}
        for family in FAMILIES:
            for count in (0, 1, 3, 6, 12):
                looks = [dice.choice(all_looks(family)) for _ in range(count)]
                costs = [dice.choice([1, 1, 2, 3, 999999999]) for _ in range(count)]
                gains = [min(gain for _, gain in outcomes_of(family, look)) for look in looks]
                best = None
                for place, gain in enumerate(gains):
                    # The gains are small: over this number, the quotients are whole numbers.
                    value = gain * 6 * 999999999 // costs[place]
                    if gain > 0 and (best is None or value > best[0]):
                        best = (value, place)
                expected = None if best is None else best[1]
                self.assertEqual(best_look(family, looks, costs), expected)
                self.assertEqual(best_look(family, tuple(looks), tuple(costs)), expected)
                seen[expected is None] += 1
        self.assertGreater(min(seen.values()), 100)

    def test_quotients_are_not_rounded(self):
        family = Family(Stock({"a": line(1), "b": line(2)}), [])
        looks = [("cell", "a"), ("cell", "b"), ("cell", "a")]
        self.assertEqual(best_look(family, looks, [500000000, 999999999, 500000000]), 1)
        self.assertEqual(best_look(family, looks, [500000000, 1000000000, 500000000]), 0)
        self.assertEqual(best_look(family, looks, [2, 4, 1]), 2)
        self.assertIsNone(best_look(family, [], []))
        self.assertIsNone(best_look(family.extended([(("a", 1),)]), [("cell", "a")], [1]))

    def test_wrong_costs(self):
        for bonds in ([], [(("b", 1),), (("b", -1),)]):
            family = Family(STOCK, bonds)
            looks = [("cell", "a"), ("cell", "b")]
            for costs, place in (
                ([0, 1], 0), ([1, 0], 1), ([1, -5], 1), ([1, 1, 0], 2), ([0], 0), ([1], 1), ([], 0), ([1, 1, 1], 3),
            ):
                self.raises(BadCost, {"place": place}, best_look, family, looks, costs)
                self.raises(BadCost, {"place": place}, best_look, family, looks, tuple(costs))
            self.raises(BadCost, {"place": 1}, best_look, family, [], [3])

    def test_cells_of_no_stock(self):
        # A look at an unknown cell is an invalid look, not an unknown name.
        with self.assertRaises(BadLook) as caught:
            outcomes(Family(STOCK, []), ("cell", "zz"))
        self.assertNotIsInstance(caught.exception, UnknownName)


if __name__ == "__main__":
    unittest.main()
