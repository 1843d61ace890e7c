import itertools
import unittest

from by_definition import Case, families_without_past, is_chain as right, is_ring as right_ring, other_side, sides
from by_definition import some_families, steps

from everypast.chains import chain
from everypast.families import Family
from everypast.papers import is_chain, is_ring
from everypast.shapes import line
from everypast.stocks import Stock

FAMILY = Family(
    Stock({"a": line(2), "b": line(1)}),
    [
        (("a", 1), ("b", 1)), (("a", -2), ("b", 1)), (("b", 1),), (("b", 1), ("b", -1)), (("a", 1), ("a", 1)),
        (("b", -1), ("a", 2)),
    ],
)


class Chains(Case):
    def test_all_short_paths(self):
        values = sides(FAMILY.stock)
        found = {True: 0, False: 0}
        for count in range(1, 4):
            for path_sides in itertools.product(values, repeat=count):
                for sources in itertools.product(range(-2, 7), repeat=count - 1):
                    path = (list(path_sides), list(sources))
                    expected = right(FAMILY, path, path_sides[0], path_sides[-1])
                    self.assertIs(is_chain(FAMILY, path), expected, path)
                    found[expected] += 1
        self.assertGreater(min(found.values()), 20)

    def test_chains_of_many_families(self):
        for family in some_families(30, seed=40):
            for start in sides(family.stock):
                for goal in sides(family.stock):
                    path = chain(family, start, goal)
                    if path is None:
                        continue
                    self.assertIs(is_chain(family, path), True)
                    self.assertIs(is_chain(family, path, start=start, goal=goal), True)
                    self.assertIs(is_chain(family, (tuple(path[0]), tuple(path[1])), start=start), True)
                    for other in sides(family.stock):
                        self.assertIs(is_chain(family, path, start=other), other == start)
                        self.assertIs(is_chain(family, path, goal=other), other == goal)
                    for at in range(len(path[1])):
                        for source in range(-2, len(family) + 2):
                            sources = path[1][:at] + [source] + path[1][at + 1:]
                            expected = (path[0][at + 1], source) in steps(family, path[0][at])
                            self.assertIs(is_chain(family, (path[0], sources)), expected)

    def test_lengths(self):
        a, b = ("b", -1), ("a", 1)
        self.assertIs(is_chain(FAMILY, ([a, b], [0])), True)
        for path in (
            ([], []), ([], [0]), ([a], [0]), ([a, b], []), ([a, b], [0, -1]), ([a, b], [0, 0, 0]), ([], [-1, -1]),
            ((), ()), ([a] * 100, [0] * 99), ([a, b] * 1000, [0] * 1999),
        ):
            self.assertIs(is_chain(FAMILY, path), False)
            self.assertIs(is_chain(FAMILY, path, start=a, goal=b), False)

    def test_a_side_occurs_once(self):
        path = ([("a", 2), ("a", 1), ("a", 2)], [-1, -1])
        self.assertIs(is_chain(FAMILY, path), False)
        loop = Family(Stock({"a": line(1), "b": line(1)}), [(("a", -1), ("b", 1)), (("b", -1), ("a", 1))])
        self.assertIs(is_chain(loop, ([("a", 1), ("b", 1)], [0])), True)
        self.assertIs(is_chain(loop, ([("a", 1), ("b", 1), ("a", 1)], [0, 1])), False)
        self.assertIs(is_chain(loop, ([("a", 1), ("a", 1)], [-1])), False)

    def test_no_step_to_itself(self):
        self.assertIs(is_chain(FAMILY, ([("b", 1), ("b", 1)], [3])), False)
        self.assertIs(is_chain(FAMILY, ([("b", -1), ("b", -1)], [3])), False)
        self.assertIs(is_chain(FAMILY, ([("b", 1), ("b", -1)], [3])), False)
        self.assertIs(is_chain(FAMILY, ([("b", -1), ("b", 1)], [3])), False)

    def test_bonds_of_one_side_and_of_a_side_twice(self):
        self.assertIs(is_chain(FAMILY, ([("b", -1), ("b", 1)], [2])), True)
        self.assertIs(is_chain(FAMILY, ([("b", 1), ("b", -1)], [2])), False)
        self.assertIs(is_chain(FAMILY, ([("a", -1), ("a", 1)], [4])), True)
        self.assertIs(is_chain(FAMILY, ([("a", 1), ("a", -1)], [4])), False)

    def test_what_is_no_side_and_no_source(self):
        for side in (("c", 1), ("a", 0), ("a", 3), ("b", 2), ("", 1), ("a", -3)):
            self.assertIs(is_chain(FAMILY, ([side], [])), False)
            self.assertIs(is_chain(FAMILY, ([side], []), start=side, goal=side), False)
            for source in (-1, 0):
                self.assertIs(is_chain(FAMILY, ([("b", -1), side], [source])), False)
                self.assertIs(is_chain(FAMILY, ([side, ("b", -1)], [source])), False)
                self.assertIs(is_chain(FAMILY, ([("a", 2), side], [source])), False)
            self.assertIs(is_chain(FAMILY, ([("b", -1)], []), start=side), False)
            self.assertIs(is_chain(FAMILY, ([("b", -1)], []), goal=side), False)
        self.assertIs(is_chain(FAMILY, ([("b", -1)], []), start=("b", -1), goal=("b", -1)), True)
        for source in (-2, -6, 1, 2, 3, 4, 5, 6, 999999999):
            self.assertIs(is_chain(FAMILY, ([("b", -1), ("a", 1)], [source])), False)
        single = Family(Stock({"a": line(1), "b": line(1)}), [(("a", 1), ("b", 1))])
        self.assertIs(is_chain(single, ([("a", -1), ("b", 1)], [0])), True)
        self.assertIs(is_chain(single, ([("a", -1), ("b", 1)], [-1])), False)
        self.assertIs(is_chain(single, ([("a", -1), ("b", 1)], [1])), False)


class Rings(Case):
    def test_rings_of_families_without_a_past(self):
        families = families_without_past(300, seed=41, size=2, bonds=12)
        self.assertGreater(len(families), 30)
        for family in families:
            found = 0
            for side in sides(family.stock):
                there = chain(family, side, other_side(side))
                back = chain(family, other_side(side), side)
                if there is not None and back is not None:
                    found += 1
                    self.assertTrue(right_ring(family, there, back))
                    self.assertIs(is_ring(family, there, back), True)
                    self.assertIs(is_ring(family, back, there), True)
                    self.assertIs(is_ring(family, there, there), False)
                    self.assertIs(is_ring(family, back, back), False)
                    self.assertIs(is_ring(family, there, ([side], [])), False)
                    self.assertIs(is_ring(family, ([side], []), back), False)
                    self.assertIs(is_ring(family, ([], []), back), False)
                    self.assertIs(is_ring(family, there, ([], [])), False)
                    self.assertIs(is_ring(family, there, (back[0], back[1] + [0])), False)
            self.assertGreater(found, 0)

    def test_pairs_of_chains_that_are_no_ring(self):
        family = Family(Stock({"a": line(2)}), [(("a", 1),), (("a", -1),), (("a", 2),), (("a", -2),)])
        there = ([("a", 1), ("a", -1)], [1])
        back = ([("a", -1), ("a", 1)], [0])
        self.assertIs(is_ring(family, there, back), True)
        self.assertIs(is_ring(family, ((("a", 1), ("a", -1)), (1,)), ((("a", -1), ("a", 1)), (0,))), True)
        other = ([("a", -2), ("a", 2)], [2])
        self.assertIs(is_ring(family, there, other), False)
        self.assertIs(is_ring(family, other, back), False)
        self.assertIs(is_ring(family, ([("a", 2), ("a", -2)], [3]), other), True)
        self.assertIs(is_ring(family, ([("a", 2), ("a", 1)], [-1]), ([("a", 1), ("a", -1), ("a", -2)], [1, -1])), False)
        self.assertIs(is_ring(family, ([("a", 1), ("a", -1)], [0]), back), False)


if __name__ == "__main__":
    unittest.main()
