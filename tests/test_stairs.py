import itertools
import math
import unittest
from fractions import Fraction

from by_definition import Case
from test_bundles import CASES, measured, some_cases
from test_tunnels import closed_sets, is_closed

from everypast.errors import BadCount, BadWeight
from everypast.stairs import corners, height, stairs
from everypast.tunnels import Tunnels


def stairs_by_definition(tunnels, weights):
    parents = tunnels.shape.parents
    blocks = []
    dug = []
    while len(dug) < len(parents):
        left = [wall for wall in range(1, len(parents) + 1) if wall not in dug]
        added = [
            walls
            for count in range(1, len(left) + 1)
            for walls in itertools.combinations(left, count)
            if is_closed(parents, [*dug, *walls])
        ]
        ratios = [Fraction(*measured(tunnels, weights, walls)) for walls in added]
        best = [walls for walls, ratio in zip(added, ratios) if ratio == max(ratios)]
        blocks.append(sorted({wall for walls in best for wall in walls}))
        dug.extend(blocks[-1])
    return blocks


class Stairs(Case):
    def test_blocks_and_corners(self):
        counts = set()
        for tunnels, weights in CASES + some_cases(3, seed=670, most=5):
            blocks = stairs_by_definition(tunnels, weights)
            self.assertEqual(stairs(tunnels, weights), blocks)
            self.assertEqual(stairs(tunnels, tuple(weights)), blocks)
            expected = [(0, 0)]
            ratios = []
            for block in blocks:
                weight, length = measured(tunnels, weights, block)
                expected.append((expected[-1][0] + length, expected[-1][1] + weight))
                ratios.append(Fraction(weight, length))
            self.assertEqual(corners(tunnels, weights), expected)
            self.assertTrue(all(first > second for first, second in zip(ratios, ratios[1:])))
            counts.add((len(blocks), len(weights)))
        self.assertTrue({(1, 1), (1, 4), (4, 4), (1, 3)} <= counts)

    def test_heights(self):
        for tunnels, weights in CASES:
            if sum(tunnels.lengths) > 60:
                continue
            tops = {}
            for walls in closed_sets(tunnels.shape.parents):
                weight, length = measured(tunnels, weights, walls)
                tops[length] = max(weight, tops.get(length, 0))
            found = corners(tunnels, weights)
            for length in range(sum(tunnels.lengths) + 1):
                numerator, denominator = height(tunnels, weights, length)
                self.assertGreaterEqual(denominator, 1)
                self.assertEqual(math.gcd(numerator, denominator), 1)
                on_lines = [
                    low + Fraction((length - start) * (high - low), end - start)
                    for (start, low), (end, high) in zip(found, found[1:])
                    if start <= length <= end
                ]
                self.assertEqual(set(on_lines), {Fraction(numerator, denominator)})
                self.assertLessEqual(tops.get(length, 0), Fraction(numerator, denominator))

    def test_one_block_and_as_many_blocks_as_tunnels(self):
        tunnels = Tunnels([0, 1, 2], [2, 2, 2])
        self.assertEqual(stairs(tunnels, [1, 2, 3]), [[1, 2, 3]])
        self.assertEqual(stairs(tunnels, [0, 0, 0]), [[1, 2, 3]])
        self.assertEqual(corners(tunnels, [0, 0, 0]), [(0, 0), (6, 0)])
        self.assertEqual([height(tunnels, [0, 0, 0], x) for x in range(7)], [(0, 1)] * 7)
        self.assertEqual(stairs(tunnels, [3, 2, 1]), [[1], [2], [3]])
        self.assertEqual(corners(tunnels, [3, 2, 1]), [(0, 0), (2, 3), (4, 5), (6, 6)])
        self.assertEqual(
            [height(tunnels, [3, 2, 1], x) for x in range(7)],
            [(0, 1), (3, 2), (3, 1), (4, 1), (5, 1), (11, 2), (6, 1)],
        )
        tunnels = Tunnels([0, 0, 0], [1, 2, 3])
        self.assertEqual(stairs(tunnels, [1, 6, 6]), [[2], [3], [1]])
        self.assertEqual(stairs(tunnels, [2, 4, 3]), [[1, 2], [3]])
        self.assertEqual((stairs(Tunnels([0], [5]), [7]), height(Tunnels([0], [5]), [7], 3)), ([[1]], (21, 5)))

    def test_wrong_weights_and_lengths(self):
        tunnels = Tunnels([0, 1, 0], [1, 2, 3])
        for weights, place in (([], 0), ([0, 0], 2), ([0] * 4, 4), ([0, -1], 1), ([0, 0, 0, -1], 3), ([-1, -1, 0], 0)):
            self.raises(BadWeight, {"place": place}, stairs, tunnels, weights)
            self.raises(BadWeight, {"place": place}, corners, tunnels, weights)
            for length in (0, -1, 7):
                self.raises(BadWeight, {"place": place}, height, tunnels, weights, length)
        for length in (-1, 7, 20000, -20000):
            self.raises(BadCount, {"number": length}, height, tunnels, [1, 2, 3], length)

    def test_what_is_passed_and_returned_can_be_changed(self):
        tunnels, weights = Tunnels([0, 0], [1, 1]), [2, 1]
        stairs(tunnels, weights)[0].clear()
        corners(tunnels, weights).clear()
        self.assertEqual((stairs(tunnels, weights), weights), ([[1], [2]], [2, 1]))
        self.assertEqual(corners(tunnels, weights), [(0, 0), (1, 2), (2, 3)])


if __name__ == "__main__":
    unittest.main()
