import itertools
import random
import unittest

from by_definition import Case, every_past, families_with_past, families_without_past, open_sides, row_has, sides
from by_definition import tied_families
from test_tunnels import closed_sets, needed, some_tunnels

from everypast.errors import BadName, BadPosition, BadSide, NotOpen
from everypast.families import Family
from everypast.shapes import line
from everypast.spots import Spots, least_digging, nearest_spot, serving
from everypast.stocks import Stock
from everypast.tunnels import Tunnels

SHAPES = [[0], [0, 1, 1, 0], [0, 1, 2], [0, 0, 0], [0, 0, 1, 1, 2]]
FAMILIES = tied_families(60, seed=700) + families_with_past(30, seed=701)


def some_spots(dice, cells):
    tunnels = some_tunnels(dice, dice.choice(SHAPES), dice.choice([1, 3, 9]))
    shown = {}
    for position in dice.sample(range(tunnels.shape.size + 1), dice.randint(0, tunnels.shape.size + 1)):
        shown[position] = dice.choice([*cells, *cells, "none"])
    return tunnels, shown


def settled(family, cells, side):
    """Whether pasts that have the same positions for the cells never differ in the side."""
    views = {}
    for row in every_past(family):
        view = tuple(v for name, v in zip(family.stock.names, row) if name in cells)
        views.setdefault(view, set()).add(row_has(family.stock, row, side))
    return all(len(found) == 1 for found in views.values())


def least_by_definition(family, tunnels, shown, wanted):
    """The least length of a closed set of tunnels that opens spots which settle all these sides, or None."""
    lengths = []
    for walls in closed_sets(tunnels.shape.parents):
        cells = [shown[position] for position in [0, *walls] if position in shown]
        if all(settled(family, cells, side) for side in wanted):
            lengths.append(sum(tunnels.lengths[wall - 1] for wall in walls))
    return min(lengths, default=None)


class Creation(Case):
    def test_spots(self):
        tunnels = Tunnels([0, 1, 1], [1, 2, 3])
        shown = {3: "pot", 0: "ring", 1: "pot"}
        spots = Spots(tunnels, shown)
        shown.clear()
        self.assertIs(spots.tunnels, tunnels)
        self.assertEqual((list(spots), len(spots)), ([0, 1, 3], 3))
        self.assertEqual([spots.shown_at(position) for position in range(4)], ["ring", "pot", None, "pot"])
        for position in (-1, 4, 20000):
            self.raises(BadPosition, {"position": position}, spots.shown_at, position)

    def test_without_spots(self):
        spots = Spots(Tunnels([0], [1]), {})
        self.assertEqual((list(spots), len(spots), spots.shown_at(1)), ([], 0, None))

    def test_errors_in_their_order(self):
        tunnels = Tunnels([0, 0], [1, 1])
        for shown, error, attributes in (
            ({3: "A", 1: "B"}, BadPosition, {"position": 3}), ({1: "A", 3: "a"}, BadName, {"name": "A"}),
            ({1: "a", -1: "a", 0: ""}, BadPosition, {"position": -1}), ({2: "a", 0: ""}, BadName, {"name": ""}),
            ({0: "abcdefghi"}, BadName, {"name": "abcdefghi"}),
        ):
            self.raises(error, attributes, Spots, tunnels, shown)


class Serving(Case):
    def test_some_spots(self):
        dice = random.Random(702)
        seen = {"served": 0, "none": 0, "root": 0}
        for family in FAMILIES:
            for _ in range(2):
                tunnels, shown = some_spots(dice, family.stock.names)
                spots = Spots(tunnels, shown)
                for side in open_sides(family):
                    found = [position for position in sorted(shown) if settled(family, [shown[position]], side)]
                    self.assertEqual(serving(family, spots, side), found)
                    lengths = [
                        (sum(tunnels.lengths[wall - 1] for wall in needed(tunnels.shape.parents, [position])), position)
                        for position in found
                    ]
                    self.assertEqual(nearest_spot(family, spots, side), min(lengths, default=None))
                    expected = least_by_definition(family, tunnels, shown, [side])
                    self.assertEqual(expected, min(lengths)[0] if lengths else None)
                    seen["served" if found else "none"] += 1
                    seen["root"] += 0 in found
        self.assertGreater(min(seen.values()), 50)

    def test_the_least_of_several_positions(self):
        family = Family(Stock({"a": line(1), "b": line(1)}), [])
        spots = Spots(Tunnels([0, 0, 0, 2], [3, 2, 2, 1]), {4: "a", 3: "a", 2: "b", 1: "a"})
        self.assertEqual(serving(family, spots, ("a", -1)), [1, 3, 4])
        self.assertEqual(nearest_spot(family, spots, ("a", 1)), (2, 3))
        spots = Spots(Tunnels([0, 0], [2, 2]), {2: "a", 1: "a", 0: "b"})
        self.assertEqual(nearest_spot(family, spots, ("a", 1)), (2, 1))
        self.assertEqual(nearest_spot(family, spots, ("b", 1)), (0, 0))
        serving(family, spots, ("a", 1)).clear()
        self.assertEqual(serving(family, spots, ("a", 1)), [1, 2])

    def test_cells_that_the_family_does_not_have(self):
        family = Family(Stock({"a": line(1)}), [])
        spots = Spots(Tunnels([0, 0], [1, 1]), {0: "b", 1: "c", 2: "a0"})
        self.assertEqual(serving(family, spots, ("a", 1)), [])
        self.assertIsNone(nearest_spot(family, spots, ("a", 1)))
        self.assertIsNone(least_digging(family, spots, [("a", 1)]))
        self.assertEqual(least_digging(family, spots, []), (0, []))


class LeastDigging(Case):
    def test_some_spots(self):
        dice = random.Random(703)
        seen = {"found": 0, "none": 0, "shared": 0}
        for family in FAMILIES:
            loose = open_sides(family)
            for count in (0, 1, 2, 2, 3, 3):
                tunnels, shown = some_spots(dice, family.stock.names)
                wanted = [dice.choice(loose) for _ in range(count)] if loose else []
                spots = Spots(tunnels, shown)
                expected = least_by_definition(family, tunnels, shown, wanted)
                answer = least_digging(family, spots, wanted)
                if expected is None:
                    self.assertIsNone(answer)
                    seen["none"] += 1
                    continue
                length, positions = answer
                self.assertEqual((length, len(positions), type(answer)), (expected, len(wanted), tuple))
                for position, side in zip(positions, wanted):
                    self.assertIn(position, shown)
                    self.assertTrue(settled(family, [shown[position]], side))
                walls = needed(tunnels.shape.parents, positions)
                self.assertEqual(sum(tunnels.lengths[wall - 1] for wall in walls), length)
                seen["found"] += 1
                seen["shared"] += len(set(positions)) < len(set(wanted))
        self.assertGreater(min(seen.values()), 25)

    def test_one_position_for_several_sides(self):
        stock = Stock({"a": line(2), "b": line(1), "c": line(1)})
        family = Family(stock, [(("b", 1), ("c", -1)), (("b", -1), ("c", 1))])
        tunnels = Tunnels([0, 0, 2, 2], [5, 4, 3, 9])
        spots = Spots(tunnels, {1: "a", 2: "b", 3: "c", 4: "a"})
        self.assertEqual(least_digging(family, spots, [("a", 1), ("a", -2)]), (5, [1, 1]))
        self.assertEqual(least_digging(family, spots, [("b", 1), ("b", 1), ("c", -1)]), (4, [2, 2, 2]))
        self.assertEqual(least_digging(family, spots, [("c", 1), ("a", 2), ("b", 1)]), (9, [2, 1, 2]))
        # What lies on the way to another position costs nothing more.
        spots = Spots(tunnels, {1: "a", 3: "b", 4: "a"})
        self.assertEqual(least_digging(family, spots, [("a", 1), ("c", 1)]), (12, [1, 3]))
        spots = Spots(Tunnels([0, 0, 2, 2], [9, 4, 3, 7]), {1: "a", 3: "b", 4: "a"})
        self.assertEqual(least_digging(family, spots, ((("a", 1)), ("c", 1))), (14, [4, 3]))

    def test_all_choices(self):
        dice = random.Random(704)
        cells = ["a", "b", "c"]
        family = Family(Stock({name: line(1) for name in cells}), [])
        for _ in range(40):
            tunnels = some_tunnels(dice, [0, 0, 1, 1, 2, 2, 3, 3])
            shown = {position: dice.choice(cells) for position in range(1, 9)}
            wanted = [(name, 1) for name in cells]
            choices = [[position for position in shown if shown[position] == name] for name in cells]
            lengths = [
                sum(tunnels.lengths[wall - 1] for wall in needed(tunnels.shape.parents, chosen))
                for chosen in itertools.product(*choices)
            ]
            answer = least_digging(family, Spots(tunnels, shown), wanted)
            self.assertEqual(answer if answer is None else answer[0], min(lengths, default=None))


class Wrong(Case):
    def test_errors_in_their_order(self):
        stock = Stock({"a": line(1), "b": line(1)})
        spots = Spots(Tunnels([0], [1]), {1: "a"})
        broken = Family(stock, [(("a", 1),), (("a", -1),)])
        whole = Family(stock, [(("a", 1),)])
        for wrong in (("a", 0), ("a", 2), ("c", 1), ("b", -2)):
            for family in (broken, whole):
                for function in (serving, nearest_spot):
                    self.raises(BadSide, {"side": wrong}, function, family, spots, wrong)
                for listed in ([wrong], [("a", 1), wrong, ("c", 0)], (("b", 1), wrong)):
                    self.raises(BadSide, {"side": wrong}, least_digging, family, spots, listed)
        for function in (serving, nearest_spot):
            self.raises_no_past(broken, function, broken, spots, ("b", 1))
            for side in (("a", 1), ("a", -1)):
                self.raises(NotOpen, {"side": side}, function, whole, spots, side)
        self.raises_no_past(broken, least_digging, broken, spots, [])
        self.raises_no_past(broken, least_digging, broken, spots, [("a", 1)])
        # That nothing serves a side before it makes no difference.
        self.raises(NotOpen, {"side": ("a", -1)}, least_digging, whole, spots, [("b", 1), ("a", -1), ("a", 1)])
        for family in families_without_past(20, seed=705):
            self.raises_no_past(family, nearest_spot, family, spots, sides(family.stock)[0])


if __name__ == "__main__":
    unittest.main()
