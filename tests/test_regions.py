import itertools
import random
import unittest

from by_definition import LARGE, Case, between, members, numbers, small_parents

from everypast.errors import BadCount, BadPosition, BadSide
from everypast.regions import common, fences, is_connected, span
from everypast.shapes import Shape, line, star

PARENTS = small_parents() + list(LARGE)


def some_lists(values, seed):
    """Lists of these values: the empty one, all of one and two, and some longer ones."""
    dice = random.Random(seed)
    lists = [[]] + [[value] for value in values] + [list(two) for two in itertools.product(values, repeat=2)]
    return lists + [[dice.choice(values) for _ in range(dice.randint(3, 6))] for _ in range(20)]


def connected(parents, positions):
    chosen = set(positions)
    return all(between(parents, first, second) <= chosen for first in chosen for second in chosen)


class Common(Case):
    def test_all_positions_or_two_sides_that_are_apart(self):
        for parents in PARENTS:
            shape = Shape(parents)
            for chosen in some_lists(numbers(parents), 4):
                positions = [
                    position
                    for position in range(len(parents) + 1)
                    if all(position in members(parents, side) for side in chosen)
                ]
                answer = common(shape, chosen)
                if positions:
                    self.assertEqual(answer, ("common", positions))
                else:
                    word, first, second = answer
                    self.assertEqual(word, "apart")
                    self.assertIn(first, chosen)
                    self.assertIn(second, chosen)
                    self.assertEqual(members(parents, first) & members(parents, second), set())

    def test_without_sides(self):
        self.assertEqual(common(line(2), []), ("common", [0, 1, 2]))
        self.assertEqual(common(line(1), ()), ("common", [0, 1]))

    def test_tuples_and_new_lists(self):
        shape = star(3)
        self.assertEqual(common(shape, (-1, -1, -2)), ("common", [0, 3]))
        common(shape, [-1])[1].clear()
        self.assertEqual(common(shape, [-1]), ("common", [0, 2, 3]))
        word, first, second = common(shape, (-3, 1, -2, 2))
        self.assertEqual((word, {first, second}), ("apart", {1, 2}))

    def test_bad_sides(self):
        self.raises(BadSide, {"side": 0}, common, line(2), [0])
        self.raises(BadSide, {"side": 3}, common, line(2), [1, -2, 3, -3])
        self.raises(BadSide, {"side": -3}, common, line(2), (1, -1, -3, 0))


class Spans(Case):
    def test_connected_sets(self):
        for parents in PARENTS:
            positions = list(range(len(parents) + 1))
            for chosen in some_lists(positions, 5):
                self.assertIs(is_connected(Shape(parents), chosen), connected(parents, chosen))
        self.assertIs(is_connected(line(3), []), True)
        self.assertIs(is_connected(line(3), ()), True)
        self.assertIs(is_connected(line(3), (3, 1, 2, 1)), True)
        self.assertIs(is_connected(line(3), (3, 1)), False)

    def test_the_span_is_the_least_connected_set(self):
        for parents in small_parents():
            positions = range(len(parents) + 1)
            sets = [set(some) for count in range(len(parents) + 2) for some in itertools.combinations(positions, count)]
            closed = [some for some in sets if connected(parents, some)]
            for some in sets:
                least = set(positions).intersection(*[other for other in closed if some <= other])
                self.assertEqual(span(Shape(parents), sorted(some)), sorted(least))
                self.assertEqual(span(Shape(parents), sorted(some, reverse=True) * 2), sorted(least))

    def test_large_spans(self):
        for parents in LARGE:
            for chosen in some_lists(list(range(9)), 6):
                found = set(chosen).union(*[between(parents, one, other) for one in chosen for other in chosen])
                self.assertEqual(span(Shape(parents), tuple(chosen)), sorted(found))

    def test_without_positions(self):
        self.assertEqual(span(star(4), []), [])
        self.assertEqual(span(star(4), ()), [])

    def test_bad_positions(self):
        for call in (is_connected, span, fences):
            self.raises(BadPosition, {"position": 3}, call, line(2), [3])
            self.raises(BadPosition, {"position": -1}, call, line(2), [0, 1, -1, 3])
            self.raises(BadPosition, {"position": 3}, call, line(2), (2, 3, -1))
            self.raises(BadPosition, {"position": 5}, call, line(1), [0, 1, 5])


class Fences(Case):
    def test_fences_by_their_definition(self):
        for parents in PARENTS:
            for chosen in some_lists(list(range(len(parents) + 1)), 7):
                if chosen:
                    spanned = set().union(*[between(parents, one, other) for one in chosen for other in chosen])
                    shared = [side for side in numbers(parents) if spanned <= members(parents, side)]
                    expected = [
                        side
                        for side in shared
                        if not any(other != side and members(parents, other) <= members(parents, side)
                                   for other in shared)
                    ]
                    self.assertEqual(fences(Shape(parents), chosen), expected)
                    inside = [
                        position
                        for position in range(len(parents) + 1)
                        if all(position in members(parents, side) for side in expected)
                    ]
                    self.assertEqual(inside, sorted(spanned))

    def test_all_positions_have_no_fences(self):
        self.assertEqual(fences(line(1), [0, 1]), [])
        self.assertEqual(fences(star(8), list(range(9))), [])

    def test_order_of_the_sides(self):
        self.assertEqual(fences(line(8), (4,)), [4, -5])
        self.assertEqual(fences(star(4), [0]), [-1, -2, -3, -4])
        self.assertEqual(fences(Shape([0, 1, 1]), [1, 1]), [1, -2, -3])

    def test_without_positions(self):
        self.raises(BadCount, {"number": 0}, fences, line(2), [])
        self.raises(BadCount, {"number": 0}, fences, line(2), ())


if __name__ == "__main__":
    unittest.main()
