import itertools
import random
import unittest

from by_definition import Case, every_past, every_row, had_by, is_chain, open_sides, other_side, parents_of, row_has
from by_definition import sides, some_families

from everypast.errors import BadRow, NotALine, UnknownName
from everypast.families import Family
from everypast.shapes import Shape, line, star
from everypast.stocks import Stock
from everypast.turning import extremes, is_odd_ring, turned_family, turned_row, turning


def line_families(count, *, seed, cells=4, size=2, share=0.5):
    """Families of lines, of bonds that a few rows keep."""
    dice = random.Random(seed)
    families = []
    for _ in range(count):
        stock = Stock({name: line(dice.randint(1, size)) for name in ["a", "b", "c", "d"][:dice.randint(1, cells)]})
        rows = [dice.choice(every_row(stock)) for _ in range(dice.randint(1, 5))]
        pairs = list(itertools.combinations_with_replacement(sides(stock), 2))
        kept = [bond for bond in pairs if all(row_has(stock, row, bond[0]) or row_has(stock, row, bond[1]) for row in rows)]
        families.append(Family(stock, [bond for bond in kept if dice.random() < share]))
    return families


FAMILIES = (
    line_families(120, seed=620) + line_families(60, seed=621, share=1) + line_families(60, seed=622, share=0.15)
    + line_families(20, seed=623, cells=2, size=6) + line_families(200, seed=627, size=1, share=0.8)
)
WITHOUT = [
    Family(family.stock, [*family, ((name, 1),), ((name, -1),)])
    for family in FAMILIES[:20]
    for name in family.stock.names[:1]
]


def turn(stock, names, row):
    return [len(parents_of(stock, name)) - v if name in names else v for name, v in zip(stock.names, row)]


def turn_side(stock, names, side):
    name, number = side
    if name not in names:
        return side
    size = len(parents_of(stock, name))
    return (name, -(size + 1 - number)) if number > 0 else (name, size + 1 + number)


def both_extremes(rows):
    least = tuple(min(column) for column in zip(*rows))
    greatest = tuple(max(column) for column in zip(*rows))
    return (list(least) if least in rows else None, list(greatest) if greatest in rows else None)


def subsets(names):
    return [list(chosen) for count in range(len(names) + 1) for chosen in itertools.combinations(names, count)]


def bond_holds(family, first, second):
    return len(had_by(family, first) | had_by(family, second)) == len(every_past(family))


def is_ring_by_definition(family, entries):
    loose = open_sides(family)
    if len(entries) < 2:
        return False
    alike = 0
    for at, (first, second, path) in enumerate(entries):
        if first not in loose or second not in loose or first[0] == second[0]:
            return False
        if not is_chain(family, path, other_side(first), second):
            return False
        if second[0] != entries[(at + 1) - len(entries)][0][0]:
            return False
        alike += (first[1] > 0) == (second[1] > 0)
    return alike % 2 == 1


class TurnedRows(Case):
    def test_rows_and_sides(self):
        stock = Stock({"a": line(3), "b": star(2), "c": line(1), "d": line(8)})
        dice = random.Random(624)
        for row in dice.sample(every_row(stock), 60):
            for names in subsets(["a", "c", "d"]):
                found = turned_row(stock, names, row)
                self.assertEqual(found, turn(stock, names, row))
                self.assertEqual(turned_row(stock, names + names, list(row)), found)
                self.assertEqual(turned_row(stock, tuple(names), found), list(row))
                for side in sides(stock):
                    self.assertEqual(row_has(stock, found, turn_side(stock, names, side)), row_has(stock, row, side))

    def test_without_cells(self):
        self.assertEqual(turned_row(Stock({}), [], []), [])

    def test_later_changes(self):
        row = [1]
        found = turned_row(Stock({"a": line(2)}), [], row)
        row[0] = 2
        self.assertEqual(found, [1])

    def test_errors_in_their_order(self):
        stock = Stock({"a": line(3), "b": star(2), "c": Shape([0, 1, 1])})
        for names, error, name in (
            (["a", "z", "b"], UnknownName, "z"), (["a", "b", "z"], NotALine, "b"), (["c", "b"], NotALine, "c"),
            ([""], UnknownName, ""), (("a", "a", "b"), NotALine, "b"),
        ):
            for row in ([], [0, 0, 9], [0, 0, 0]):
                self.raises(error, {"name": name}, turned_row, stock, names, row)
            self.raises(error, {"name": name}, turned_family, Family(stock, []), names)
        for row in ([], [0, 0], [0, 0, 0, 0], [4, 0, 0], [0, -1, 0]):
            self.raises(BadRow, {"row": row}, turned_row, stock, ["a", "a"], row)
            self.raises(BadRow, {"row": row}, turned_row, stock, [], tuple(row))


class TurnedFamilies(Case):
    def test_families(self):
        for family in FAMILIES[:60] + WITHOUT:
            for names in subsets(family.stock.names):
                found = turned_family(family, names)
                self.assertIs(type(found), Family)
                self.assertEqual(found.stock.names, family.stock.names)
                expected = [tuple(turn_side(family.stock, names, side) for side in bond) for bond in family]
                self.assertEqual(list(found), expected)
                rows = sorted(tuple(turn(family.stock, names, row)) for row in every_past(family))
                self.assertEqual(every_past(found), rows)
                self.assertEqual(list(turned_family(found, names + names)), list(family))

    def test_only_the_turned_cells_need_lines(self):
        turned = 0
        for family in some_families(150, seed=625):
            names = [name for name in family.stock.names if list(range(len(parents_of(family.stock, name)))) ==
                     parents_of(family.stock, name)]
            found = turned_family(family, names)
            rows = sorted(tuple(turn(family.stock, names, row)) for row in every_past(family))
            self.assertEqual(every_past(found), rows)
            turned += len(names) < len(family.stock.names) and not rows
        self.assertGreater(turned, 5)


class Extremes(Case):
    def test_extremes(self):
        seen = {}
        for family in FAMILIES:
            expected = both_extremes(every_past(family))
            self.assertEqual(extremes(family), expected)
            kinds = tuple(row is None for row in expected)
            seen[kinds] = seen.get(kinds, 0) + 1
        self.assertEqual(len(seen), 4)
        self.assertGreater(min(seen.values()), 10)

    def test_an_earliest_past_without_a_latest_one(self):
        stock = Stock({"a": line(1), "b": line(1)})
        family = Family(stock, [(("a", -1), ("b", -1))])
        self.assertEqual(extremes(family), ([0, 0], None))
        self.assertEqual(extremes(Family(stock, [(("a", 1), ("b", 1))])), (None, [1, 1]))
        self.assertEqual(extremes(Family(Stock({}), [])), ([], []))
        answer = turning(family)
        self.assertIn(answer, (("turned", ["a"]), ("turned", ["b"])))

    def test_errors_in_their_order(self):
        stock = Stock({"a": line(1), "b": star(2), "c": star(3)})
        for bonds in ([], [(("a", 1),), (("a", -1),)]):
            family = Family(stock, bonds)
            self.raises(NotALine, {"name": "b"}, extremes, family)
            self.raises(NotALine, {"name": "b"}, turning, family)
            self.raises(NotALine, {"name": "b"}, is_odd_ring, family, [])
        for family in WITHOUT:
            for function in (extremes, turning):
                self.raises_no_past(family, function, family)
            self.raises_no_past(family, is_odd_ring, family, [])


class Turning(Case):
    def test_some_families(self):
        seen = {"turned": 0, "ring": 0, "moved": 0, "longer": 0}
        for family in FAMILIES:
            names = family.stock.names
            can = [
                chosen
                for chosen in subsets(names)
                if None not in both_extremes([tuple(turn(family.stock, chosen, row)) for row in every_past(family)])
            ]
            word, found = turning(family)
            self.assertIs(type(found), list)
            seen[word] += 1
            if can:
                self.assertEqual(word, "turned")
                self.assertIn(found, can)
                self.assertNotIn(None, extremes(turned_family(family, found)))
                seen["moved"] += found != []
            else:
                self.assertEqual(word, "ring")
                self.assertTrue(is_ring_by_definition(family, found))
                self.assertIs(is_odd_ring(family, found), True)
                seen["longer"] += len(found) > 2
        self.assertGreater(min(seen.values()), 8)

    def test_no_falling_pair_means_both_extremes(self):
        for family in FAMILIES:
            loose = open_sides(family)
            falls = any(
                first[0] != second[0] and (first[1] > 0) == (second[1] > 0) and bond_holds(family, first, second)
                for first in loose
                for second in loose
            )
            if not falls:
                self.assertNotIn(None, extremes(family))

    def test_three_of_which_two_hold(self):
        stock = Stock({"a": line(1), "b": line(1), "c": line(1)})
        family = Family(stock, [(("a", 1), ("b", 1)), (("b", 1), ("c", 1)), (("a", 1), ("c", 1))])
        word, ring = turning(family)
        self.assertEqual((word, len(ring)), ("ring", 3))
        self.assertTrue(is_ring_by_definition(family, ring))

    def test_a_falling_and_a_rising_pair(self):
        stock = Stock({"a": line(2), "b": line(2)})
        family = Family(stock, [(("a", 1), ("b", 1)), (("a", 2), ("b", -2))])
        word, ring = turning(family)
        self.assertEqual(word, "ring")
        self.assertTrue(is_ring_by_definition(family, ring))

    def test_what_is_returned_can_be_changed(self):
        stock = Stock({"a": line(1), "b": line(1), "c": line(1)})
        family = Family(stock, [(("a", 1), ("b", 1)), (("b", 1), ("c", 1)), (("a", 1), ("c", 1))])
        expected = repr(turning(family))
        _, ring = turning(family)
        ring[0][2][0].clear()
        ring.clear()
        self.assertEqual(repr(turning(family)), expected)
        extremes(family)[1].clear()
        self.assertEqual(extremes(family), (None, [1, 1, 1]))


class Rings(Case):
    def rings(self):
        for family in FAMILIES:
            word, found = turning(family)
            if word == "ring":
                yield family, found

    def test_changed_rings(self):
        dice = random.Random(626)
        seen = {True: 0, False: 0}
        for family, ring in self.rings():
            tried = [
                ring[:1], ring[:-1], ring + ring, ring + ring + ring, ring[1:] + ring[:1], ring[::-1], [], ring + ring[:1],
                [(second, first, path) for first, second, path in ring],
                [(first, second, path[::-1]) for first, second, path in ring],
                [(first, second, ([], [])) for first, second, path in ring],
                [(first, second, (path[0], [9 for _ in path[1]])) for first, second, path in ring],
                [(other_side(first), second, path) for first, second, path in ring],
                [(first, other_side(second), path) for first, second, path in ring],
                [(first, first, ([other_side(first), first], [0])) for first, second, path in ring],
                # A pair of two sides of the same cell, whose bond always holds, belongs in no ring.
                [(ring[0][0], other_side(ring[0][0]), ([other_side(ring[0][0])], [])), *ring],
            ]
            for _ in range(30):
                changed = [list(entry) for entry in ring]
                entry = dice.choice(changed)
                entry[dice.randrange(2)] = dice.choice(sides(family.stock))
                tried.append([tuple(entry) for entry in changed])
            for entries in tried:
                expected = is_ring_by_definition(family, entries)
                self.assertIs(is_odd_ring(family, entries), expected)
                seen[expected] += 1
        self.assertGreater(min(seen.values()), 30)

    def test_entries_with_certain_sides(self):
        stock = Stock({"a": line(1), "b": line(1)})
        family = Family(stock, [(("a", 1),), (("b", 1), ("a", 1)), (("a", -1), ("b", 1)), (("b", -1), ("a", 1))])
        entries = [
            (("a", 1), ("b", 1), ([("a", -1), ("b", 1)], [1])), (("b", -1), ("a", 1), ([("b", 1), ("a", 1)], [3])),
        ]
        self.assertTrue(all(is_chain(family, path, other_side(first), second) for first, second, path in entries))
        self.assertIs(is_odd_ring(family, entries), False)


if __name__ == "__main__":
    unittest.main()
