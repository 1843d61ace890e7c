import random
import unittest

from by_definition import Case, every_past, families_with_past, families_without_past, tied_families, ties
from test_looks import NO_LOOKS, all_looks, outcomes_of, shown, walls_open

from everypast.errors import BadLook, BadPast
from everypast.families import Family
from everypast.shapes import line, star
from everypast.stocks import Stock
from everypast.talks import talk

FAMILIES = tied_families(70, seed=790) + families_with_past(50, seed=791)


def least_yield(family, rows, look):
    """The least number of walls that an outcome of the look gains, where these rows are left."""
    before = walls_open(family, rows)
    views = {}
    for row in rows:
        views.setdefault(shown(family, look, row), []).append(row)
    return min(len(before) - len(walls_open(family, left)) for left in views.values())


def talk_by_definition(family, truth, looks):
    rows = every_past(family)
    rounds = []
    while True:
        yields = [least_yield(family, rows, look) for look in looks]
        if max(yields, default=0) < 1:
            break
        place = yields.index(max(yields))
        outcome = shown(family, looks[place], truth)
        left = [row for row in rows if shown(family, looks[place], row) == outcome]
        rounds.append((place, outcome, len(walls_open(family, rows)) - len(walls_open(family, left))))
        rows = left
    order = [wall for wall in family.stock.walls() if wall in walls_open(family, rows)]
    return rounds, order, rows


class Talks(Case):
    def test_some_talks(self):
        dice = random.Random(792)
        seen = {"settled": 0, "open": 0, "long": 0}
        for family in FAMILIES:
            for _ in range(3):
                looks = [dice.choice(all_looks(family)) for _ in range(dice.randint(0, 6))]
                truth = dice.choice(every_past(family))
                rounds, left, rows = talk_by_definition(family, truth, looks)
                answer = talk(family, list(truth), looks)
                self.assertEqual(answer, (rounds, left))
                self.assertEqual((type(answer), type(answer[0]), type(answer[1])), (tuple, list, list))
                self.assertEqual(talk(family, truth, tuple(looks)), (rounds, left))
                self.assertLessEqual(len(rounds), len(ties(family)))
                self.assertIn(truth, rows)
                seen["open" if left else "settled"] += 1
                seen["long"] += len(rounds) > 1
        self.assertGreater(min(seen.values()), 40)

    def test_looks_that_show_a_wall_of_each_tie(self):
        for family in FAMILIES:
            looks = [("wall", name, abs(number)) for name, number in (tie[0] for tie in ties(family))][:12]
            if len(looks) == len(ties(family)):
                for truth in every_past(family):
                    rounds, left = talk(family, truth, looks)
                    self.assertEqual((left, talk_by_definition(family, truth, looks)[2]), ([], [truth]))
                    self.assertEqual(sum(gain for _, _, gain in rounds), len(walls_open(family, every_past(family))))

    def test_edges(self):
        stock = Stock({"a": line(2), "b": star(2), "c": line(1)})
        family = Family(stock, [(("c", 1),), (("a", 1), ("b", 1))])
        everything = [("a", 1), ("a", 2), ("b", 1), ("b", 2)]
        # Without looks, with looks that settle nothing, and with the same look twice.
        self.assertEqual(talk(family, [1, 0, 1], []), ([], everything))
        self.assertEqual(talk(family, [1, 0, 1], [("cell", "c"), ("wall", "c", 1)]), ([], everything))
        looks = [("cell", "c"), ("wall", "a", 1), ("wall", "a", 1), ("cell", "b"), ("cell", "b")]
        # If the cell b has not side 1, the cell a has its side 1.
        self.assertEqual(talk(family, [1, 0, 1], looks), ([(3, 0, 3)], [("a", 2)]))
        self.assertEqual(talk(family, [0, 1, 1], looks), ([(3, 1, 2), (1, -1, 2)], []))
        self.assertEqual(talk(family, [2, 1, 1], looks), ([(3, 1, 2), (1, 1, 1)], [("a", 2)]))
        self.assertEqual(talk(Family(Stock({}), []), [], []), ([], []))

    def test_the_least_yields_are_those_of_the_looks(self):
        for family in FAMILIES[:30]:
            for look in all_looks(family):
                least = min(gain for _, gain in outcomes_of(family, look))
                self.assertEqual(least_yield(family, every_past(family), look), least)

    def test_errors_in_their_order(self):
        stock = Stock({"a": line(1), "b": star(2)})
        broken = Family(stock, [(("a", 1),), (("a", -1),)])
        whole = Family(stock, [(("a", 1),)])
        for wrong in NO_LOOKS:
            for family in (broken, whole):
                for place in range(2):
                    looks = [("cell", "a")] * place + [wrong, ("no", "look")]
                    self.raises(BadLook, {"place": place}, talk, family, [9], looks)
        for looks in ([], [("cell", "a")]):
            self.raises_no_past(broken, talk, broken, [9], looks)
            for truth in ([], [0, 0], [1, 3], [1], [1, 0, 0], (0, 1)):
                self.raises(BadPast, {"row": list(truth)}, talk, whole, truth, looks)
        for family in families_without_past(20, seed=793):
            self.raises_no_past(family, talk, family, [], all_looks(family))

    def test_what_is_passed_and_returned_can_be_changed(self):
        family = Family(Stock({"a": line(2)}), [])
        truth, looks = [1], [("wall", "a", 1)]
        first = talk(family, truth, looks)
        for part in first:
            part.clear()
        self.assertEqual(talk(family, truth, looks), ([(0, 1, 1)], [("a", 2)]))
        self.assertEqual((truth, looks), ([1], [("wall", "a", 1)]))


if __name__ == "__main__":
    unittest.main()
