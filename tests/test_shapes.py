import unittest

from by_definition import LARGE, Case, all_parents, between, members, numbers, parted, small_parents

from everypast.errors import BadPosition, BadShape, BadSide
from everypast.shapes import Shape, equal_shapes, line, star

PARENTS = small_parents() + list(LARGE)


class MakingShapes(Case):
    def test_attributes(self):
        for parents in PARENTS:
            shape = Shape(parents)
            self.assertEqual(shape.parents, tuple(parents))
            self.assertIs(type(shape.parents), tuple)
            self.assertEqual(shape.size, len(parents))
        self.assertEqual(Shape((0, 1, 1)).parents, (0, 1, 1))

    def test_the_list_is_copied(self):
        parents = [0, 1, 2]
        shape = Shape(parents)
        parents[2] = 0
        parents.append(0)
        self.assertEqual(shape.parents, (0, 1, 2))
        self.assertEqual(shape.positions_of(3), [3])
        self.assertEqual(parents, [0, 1, 0, 0])

    def test_parents_out_of_bounds(self):
        for parents, place in (
            ([], 0), ((), 0), ([1], 0), ([-1], 0), ([0, 2], 1), ([0, -1], 1), ([0, 1, 3, 4], 2), ([0, 1, 2, 4], 3),
            ([0, 0, -5, 9], 2), ([0, 999999999], 1), ([1, 1], 0),
        ):
            self.raises(BadShape, {"place": place}, Shape, parents)

    def test_more_walls_than_eight(self):
        shape = Shape([0, 1, 2, 3, 4, 5, 6, 7, 8, 0])
        self.assertEqual(shape.size, 10)
        self.assertEqual(shape.positions_of(9), [9])
        self.assertEqual(shape.way(9, 10), [9, 8, 7, 6, 5, 4, 3, 2, 1, 0, 10])


class Lines(Case):
    def test_lines_and_stars(self):
        for size in range(1, 9):
            self.assertEqual(line(size).parents, tuple(range(size)))
            self.assertEqual(star(size).parents, (0,) * size)
            self.assertEqual(line(size).size, size)
            self.assertIsInstance(line(size), Shape)
            self.assertIsInstance(star(size), Shape)

    def test_sizes_below_one(self):
        for size in (0, -1, -8, -999999999):
            self.raises(BadShape, {"place": 0}, line, size)
            self.raises(BadShape, {"place": 0}, star, size)

    def test_is_line(self):
        for parents in PARENTS:
            self.assertIs(Shape(parents).is_line(), parents == list(range(len(parents))))
        self.assertIs(line(1).is_line(), True)
        self.assertIs(star(1).is_line(), True)
        self.assertIs(star(2).is_line(), False)

    def test_on_a_line_a_position_has_a_side_if_it_is_at_least_the_number(self):
        for size in range(1, 9):
            for position in range(size + 1):
                for number in range(1, size + 1):
                    self.assertIs(line(size).has(position, number), position >= number)
                    self.assertIs(line(size).has(position, -number), position < number)

    def test_equal_shapes(self):
        for size in range(1, 4):
            for parents in all_parents(size):
                for others in all_parents(size) + all_parents(size + 1):
                    self.assertIs(equal_shapes(Shape(parents), Shape(others)), parents == others)


class Sides(Case):
    def test_positions_of_a_side(self):
        for parents in PARENTS:
            shape = Shape(parents)
            for side in numbers(parents):
                self.assertEqual(shape.positions_of(side), sorted(members(parents, side)))

    def test_has_and_sides_at(self):
        for parents in PARENTS:
            shape = Shape(parents)
            for position in range(len(parents) + 1):
                had = [side for side in numbers(parents) if position in members(parents, side)]
                self.assertEqual(shape.sides_at(position), had)
                for side in numbers(parents):
                    self.assertIs(shape.has(position, side), side in had)

    def test_leads_inside(self):
        for parents in PARENTS:
            shape = Shape(parents)
            for side in numbers(parents):
                for other in numbers(parents):
                    expected = members(parents, side) <= members(parents, other)
                    self.assertIs(shape.leads_inside(side, other), expected)

    def test_sides_out_of_bounds(self):
        shape = Shape([0, 1, 1])
        for side in (0, 4, -4, 999999999):
            self.raises(BadSide, {"side": side}, shape.positions_of, side)
            self.raises(BadSide, {"side": side}, shape.has, 0, side)
            self.raises(BadSide, {"side": side}, shape.leads_inside, side, 1)
            self.raises(BadSide, {"side": side}, shape.leads_inside, 1, side)
        self.raises(BadSide, {"side": 4}, shape.leads_inside, 4, 0)
        self.assertEqual(shape.positions_of(-3), [0, 1, 2])

    def test_positions_out_of_bounds(self):
        shape = Shape([0, 1, 1])
        for position in (-1, 4, 999999999):
            self.raises(BadPosition, {"position": position}, shape.has, position, 1)
            self.raises(BadPosition, {"position": position}, shape.has, position, 0)
            self.raises(BadPosition, {"position": position}, shape.sides_at, position)
        self.assertIs(shape.has(3, -3), False)

    def test_returned_lists_are_new(self):
        shape = Shape([0, 1, 1])
        shape.positions_of(1).clear()
        shape.sides_at(2).append(7)
        shape.way(2, 3).clear()
        shape.parting(2, 3).clear()
        self.assertEqual(shape.positions_of(1), [1, 2, 3])
        self.assertEqual(shape.sides_at(2), [1, 2, -3])
        self.assertEqual(shape.way(2, 3), [2, 1, 3])
        self.assertEqual(shape.parting(2, 3), [2, 3])


class Ways(Case):
    def test_ways_go_along_edges_and_contain_what_lies_between(self):
        for parents in PARENTS:
            shape = Shape(parents)
            for start in range(len(parents) + 1):
                for goal in range(len(parents) + 1):
                    way = shape.way(start, goal)
                    self.assertEqual((way[0], way[-1]), (start, goal))
                    self.assertEqual(len(set(way)), len(way))
                    self.assertEqual(set(way), between(parents, start, goal))
                    for one, following in zip(way, way[1:]):
                        self.assertEqual(min(one, following), parents[max(one, following) - 1])

    def test_parting_and_distance(self):
        for parents in PARENTS:
            shape = Shape(parents)
            for first in range(len(parents) + 1):
                for second in range(len(parents) + 1):
                    walls = parted(parents, first, second)
                    self.assertEqual(shape.parting(first, second), walls)
                    self.assertEqual(shape.distance(first, second), len(walls))
                    self.assertEqual(shape.distance(first, second), len(shape.way(first, second)) - 1)

    def test_positions_out_of_bounds(self):
        shape = Shape([0, 1, 1])
        for call in (shape.way, shape.parting, shape.distance):
            for position in (-1, 4):
                self.raises(BadPosition, {"position": position}, call, position, 0)
                self.raises(BadPosition, {"position": position}, call, 0, position)
            self.raises(BadPosition, {"position": 7}, call, 7, -7)


if __name__ == "__main__":
    unittest.main()
