import itertools
import random
import unittest

from by_definition import Case, LARGE, between, parted, path_to_root, small_parents

from everypast.errors import BadLength, BadPosition, BadShape, BadSide
from everypast.shapes import Shape, line, star
from everypast.tunnels import Tunnels

ALL_PARENTS = small_parents() + [list(parents) for parents in LARGE]


def some_tunnels(dice, parents, most=9):
    return Tunnels(parents, [dice.randint(1, most) for _ in parents])


def needed(parents, positions):
    """The tunnels of the least closed set that opens the positions."""
    return sorted({wall for position in positions for wall in path_to_root(parents, position) if wall != 0})


def is_closed(parents, walls):
    return all(parents[wall - 1] == 0 or parents[wall - 1] in walls for wall in walls)


def closed_sets(parents):
    """All closed sets of tunnels, as sorted lists."""
    walls = range(1, len(parents) + 1)
    return [
        list(chosen)
        for count in range(len(parents) + 1)
        for chosen in itertools.combinations(walls, count)
        if is_closed(parents, chosen)
    ]


class Creation(Case):
    def test_attributes(self):
        parents, lengths = [0, 1, 0], [2, 999, 1]
        tunnels = Tunnels(parents, lengths)
        parents[0] = lengths[0] = 9
        lengths.append(1)
        self.assertIs(type(tunnels.shape), Shape)
        self.assertEqual((tunnels.shape.parents, tunnels.lengths), ((0, 1, 0), (2, 999, 1)))
        self.assertIs(type(tunnels.lengths), tuple)
        self.assertEqual(Tunnels((0,), (1,)).lengths, (1,))

    def test_lengths_beyond_their_bounds(self):
        for lengths in ([1000, 1], [20000, 999999999], (999, 1000)):
            tunnels = Tunnels([0, 1], lengths)
            self.assertEqual((tunnels.lengths, tunnels.cost([2])), (tuple(lengths), sum(lengths)))

    def test_errors_in_their_order(self):
        for parents, place in (([], 0), ([1], 0), ([0, 2], 1), ([0, 0, -1], 2)):
            for lengths in ([], [0], [1, 1, 1, 1]):
                self.raises(BadShape, {"place": place}, Tunnels, parents, lengths)
        for lengths, place in (
            ([], 0), ([1], 1), ([1, 1, 1], 3), ([0], 0), ([1, 0, 1], 1), ([1, 1, 0], 2), ([-5, 1], 0), ([1, -20000], 1),
            ((1, 1, 1, 1, 1), 5), ([1, 1, 1, 0], 3),
        ):
            self.raises(BadLength, {"place": place}, Tunnels, [0, 0], lengths)


class Digging(Case):
    def setUp(self):
        dice = random.Random(640)
        self.some = [some_tunnels(dice, parents) for parents in ALL_PARENTS]

    def test_opened_and_cost(self):
        dice = random.Random(641)
        for tunnels in self.some:
            parents = list(tunnels.shape.parents)
            for _ in range(30):
                positions, before = (
                    [dice.randint(0, len(parents)) for _ in range(dice.randint(0, 4))] for _ in range(2)
                )
                walls = needed(parents, positions)
                self.assertEqual(tunnels.opened(positions), walls)
                self.assertEqual(tunnels.opened(tuple(positions)), walls)
                containing = [chosen for chosen in closed_sets(parents) if set(positions) <= {0, *chosen}]
                self.assertEqual(min(containing, key=len), walls)
                self.assertEqual(tunnels.cost(positions), sum(tunnels.lengths[wall - 1] for wall in walls))
                left = [wall for wall in walls if wall not in needed(parents, before)]
                length = sum(tunnels.lengths[wall - 1] for wall in left)
                self.assertEqual(tunnels.cost(positions, opened=before), length)
                self.assertEqual(tunnels.cost(tuple(positions), opened=tuple(before)), length)

    def test_edges(self):
        tunnels = Tunnels([0, 1, 1, 0], [1, 20, 300, 4000])
        for positions, length in (([], 0), ([0], 0), ([0, 0], 0), ([2], 21), ([2, 2, 1], 21), ([3, 2], 321), ([4, 0], 4000)):
            self.assertEqual(tunnels.cost(positions), length)
        self.assertEqual((tunnels.opened([]), tunnels.opened([0]), tunnels.opened([3, 2, 3])), ([], [], [1, 2, 3]))
        for before, length in (([2], 300), ([3], 0), ([3, 3], 0), ([0], 301), ([4], 301), ([1], 300)):
            self.assertEqual(tunnels.cost([3], opened=before), length)
        self.assertEqual(Tunnels([0], [7]).cost([1]), 7)

    def test_between(self):
        for tunnels in self.some:
            parents = list(tunnels.shape.parents)
            for first, second in itertools.product(range(len(parents) + 1), repeat=2):
                length = sum(tunnels.lengths[wall - 1] for wall in parted(parents, first, second))
                self.assertEqual(tunnels.between(first, second), length)
                for third in between(parents, first, second):
                    self.assertEqual(tunnels.between(first, third) + tunnels.between(third, second), length)

    def test_closed_sets(self):
        for tunnels in self.some:
            parents = list(tunnels.shape.parents)
            for count in range(4):
                for walls in itertools.product(range(1, len(parents) + 1), repeat=min(count, len(parents))):
                    self.assertIs(tunnels.is_closed(list(walls)), is_closed(parents, walls))
        for walls, closed in (([], True), ([1, 2, 3], True), ([3, 2], False), ([2, 2, 1, 1], True), ((2,), False)):
            self.assertIs(Tunnels([0, 1, 2], [1, 1, 1]).is_closed(walls), closed)
            self.assertIs(Tunnels([0, 0, 0], [1, 1, 1]).is_closed(walls), True)

    def test_totals(self):
        tunnels = Tunnels([0, 1, 2], [1, 1, 1])
        for values in ([5, -7, 0], (5, -7, 0)):
            for walls, total in (([], 0), ([1], 5), ([2, 2], -7), ([3], 0), ([1, 2, 1], -2), ((3, 2, 1), -2)):
                self.assertEqual(tunnels.total(values, walls), total)

    def test_errors_in_their_order(self):
        tunnels = Tunnels([0, 1, 0], [1, 1, 1])
        for wrong in (-1, 4, 20000, -20000):
            for positions in ([wrong], [3, wrong, -9], (wrong, 9)):
                self.raises(BadPosition, {"position": wrong}, tunnels.opened, positions)
                self.raises(BadPosition, {"position": wrong}, tunnels.cost, positions)
                self.raises(BadPosition, {"position": wrong}, tunnels.cost, positions, opened=[77])
                self.raises(BadPosition, {"position": wrong}, tunnels.cost, [1], opened=positions)
            self.raises(BadPosition, {"position": wrong}, tunnels.between, wrong, 77)
            self.raises(BadPosition, {"position": wrong}, tunnels.between, 3, wrong)
        for wrong in (0, -1, 4, 20000):
            for walls in ([wrong], [3, wrong, -9], (wrong, 0)):
                self.raises(BadSide, {"side": wrong}, tunnels.is_closed, walls)
                self.raises(BadSide, {"side": wrong}, tunnels.total, [1, 2, 3], walls)

    def test_what_is_passed_and_returned_can_be_changed(self):
        tunnels = Tunnels([0, 1], [1, 2])
        positions = [2]
        tunnels.opened(positions).clear()
        self.assertEqual((positions, tunnels.opened(positions)), ([2], [1, 2]))
        self.assertEqual(Tunnels(line(2).parents, star(2).parents[:0] + (1, 2)).lengths, (1, 2))


if __name__ == "__main__":
    unittest.main()
