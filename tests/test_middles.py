import itertools
import random
import unittest

from by_definition import LARGE, Case, between, majority, parted, small_parents

from everypast.errors import BadPosition, EvenCount
from everypast.middles import middle, odd_middle, total_distance
from everypast.shapes import Shape, line, star

PARENTS = small_parents() + list(LARGE)


class Middles(Case):
    def test_middle_of_three(self):
        for parents in PARENTS:
            positions = range(len(parents) + 1)
            shape = Shape(parents)
            for three in itertools.combinations_with_replacement(positions, 3):
                found = majority(parents, three)
                for first, second, third in set(itertools.permutations(three)):
                    self.assertEqual(middle(shape, first, second, third), found)

    def test_the_middle_of_three_is_the_only_position_between_each_two(self):
        parents = [0, 1, 1, 0, 4, 4, 2, 3]
        for three in itertools.combinations(range(9), 3):
            first, second, third = three
            shared = between(parents, first, second) & between(parents, second, third) & between(parents, first, third)
            self.assertEqual(shared, {middle(Shape(parents), *three)})

    def test_middle_of_an_odd_number(self):
        dice = random.Random(1)
        for parents in PARENTS:
            for count in (1, 3, 5, 7, 31):
                positions = [dice.randrange(len(parents) + 1) for _ in range(count)]
                self.assertEqual(odd_middle(Shape(parents), positions), majority(parents, positions))

    def test_the_middle_has_the_least_sum_of_distances(self):
        dice = random.Random(2)
        for parents in PARENTS:
            shape = Shape(parents)
            positions = [dice.randrange(len(parents) + 1) for _ in range(5)]
            sums = [total_distance(shape, positions, position) for position in range(len(parents) + 1)]
            self.assertEqual([at for at, number in enumerate(sums) if number == min(sums)],
                             [odd_middle(shape, positions)])

    def test_the_same_position_several_times(self):
        self.assertEqual(odd_middle(star(8), [5, 5, 5, 1, 2]), 5)
        self.assertEqual(odd_middle(star(8), [5, 5, 4, 4, 2]), 0)
        self.assertEqual(odd_middle(line(8), (8,)), 8)
        self.assertEqual(middle(line(1), 1, 1, 0), 1)
        self.assertEqual(middle(line(1), 0, 1, 0), 0)

    def test_total_distance(self):
        dice = random.Random(3)
        for parents in PARENTS:
            shape = Shape(parents)
            positions = [dice.randrange(len(parents) + 1) for _ in range(dice.randrange(7))]
            for position in range(len(parents) + 1):
                expected = sum(len(parted(parents, other, position)) for other in positions)
                self.assertEqual(total_distance(shape, positions, position), expected)
        self.assertEqual(total_distance(line(3), [], 2), 0)
        self.assertEqual(total_distance(line(3), (0, 0, 3), 3), 6)

    def test_positions_out_of_bounds(self):
        shape = Shape([0, 1, 1, 0])
        for position in (-1, 5):
            for place in range(3):
                three = [0, 0, 0]
                three[place] = position
                self.raises(BadPosition, {"position": position}, middle, shape, *three)
                self.raises(BadPosition, {"position": position}, odd_middle, shape, three)
            self.raises(BadPosition, {"position": position}, total_distance, shape, [0, position], 0)
            self.raises(BadPosition, {"position": position}, total_distance, shape, [0], position)
        self.raises(BadPosition, {"position": 7}, middle, shape, 7, 8, 9)
        self.raises(BadPosition, {"position": 8}, middle, shape, 4, 8, 9)
        self.raises(BadPosition, {"position": 6}, odd_middle, shape, (0, 6, -1))
        self.raises(BadPosition, {"position": 6}, total_distance, shape, [6, 7], 8)

    def test_even_numbers(self):
        shape = line(2)
        self.raises(EvenCount, {"number": 0}, odd_middle, shape, [])
        self.raises(EvenCount, {"number": 2}, odd_middle, shape, [1, 1])
        self.raises(EvenCount, {"number": 30}, odd_middle, shape, [1] * 30)
        self.raises(BadPosition, {"position": 3}, odd_middle, shape, [1, 3])

    def test_nothing_that_is_passed_changes(self):
        positions = [2, 0, 1]
        odd_middle(line(2), positions)
        total_distance(line(2), positions, 1)
        self.assertEqual(positions, [2, 0, 1])


if __name__ == "__main__":
    unittest.main()
