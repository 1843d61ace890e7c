import itertools
import random
import unittest
from fractions import Fraction

from by_definition import Case
from test_tunnels import ALL_PARENTS, closed_sets

from everypast.bundles import are_prices, best_set, prices
from everypast.errors import BadCount, BadWeight
from everypast.tunnels import Tunnels


def some_cases(count, *, seed, most=3):
    """Pairs of tunnels and weights, with small numbers so that several sets have the same ratio, and some large ones."""
    dice = random.Random(seed)
    cases = []
    for parents in ALL_PARENTS:
        for _ in range(count):
            high = dice.choice([1, 2, most, most, 999])
            lengths = [dice.randint(1, high) for _ in parents]
            cases.append((Tunnels(parents, lengths), [dice.randint(0, high) for _ in parents]))
    return cases


CASES = some_cases(4, seed=650)


def measured(tunnels, weights, walls):
    return sum(weights[wall - 1] for wall in walls), sum(tunnels.lengths[wall - 1] for wall in walls)


def ratio(tunnels, weights, walls):
    return Fraction(*measured(tunnels, weights, walls))


def union_of_best(tunnels, weights):
    sets = [walls for walls in closed_sets(tunnels.shape.parents) if walls]
    greatest = max(ratio(tunnels, weights, walls) for walls in sets)
    best = [walls for walls in sets if ratio(tunnels, weights, walls) == greatest]
    return sorted({wall for walls in best for wall in walls}), len(best)


def are_prices_by_definition(tunnels, weights, a, b, offered):
    parents = tunnels.shape.parents
    if len(offered) != len(parents) or any(price < 0 for price in offered):
        return False
    for wall in range(1, len(parents) + 1):
        behind = sum(offered[other - 1] for other in range(1, len(parents) + 1) if parents[other - 1] == wall)
        if offered[wall - 1] < b * weights[wall - 1] - a * tunnels.lengths[wall - 1] + behind:
            return False
        if parents[wall - 1] == 0 and offered[wall - 1] != 0:
            return False
    return True


class BestSets(Case):
    def test_best_sets(self):
        several = 0
        for tunnels, weights in CASES:
            walls, count = union_of_best(tunnels, weights)
            self.assertEqual(best_set(tunnels, weights), (*measured(tunnels, weights, walls), walls))
            self.assertEqual(best_set(tunnels, tuple(weights))[2], walls)
            several += count > 1
        self.assertGreater(several, 30)

    def test_all_weights_of_nothing(self):
        for tunnels, weights in CASES:
            size = len(weights)
            expected = (0, sum(tunnels.lengths), list(range(1, size + 1)))
            self.assertEqual(best_set(tunnels, [0] * size), expected)

    def test_one_wall_a_line_and_a_star(self):
        self.assertEqual(best_set(Tunnels([0], [3]), [5]), (5, 3, [1]))
        tunnels = Tunnels([0, 1, 2, 3], [1, 1, 1, 1])
        self.assertEqual(best_set(tunnels, [0, 0, 9, 0]), (9, 3, [1, 2, 3]))
        self.assertEqual(best_set(tunnels, [3, 0, 3, 3]), (3, 1, [1]))
        self.assertEqual(best_set(tunnels, [2, 1, 3, 2]), (8, 4, [1, 2, 3, 4]))
        tunnels = Tunnels([0, 0, 0, 0], [1, 2, 3, 2])
        self.assertEqual(best_set(tunnels, [2, 4, 5, 4]), (10, 5, [1, 2, 4]))
        self.assertEqual(best_set(tunnels, [999, 0, 0, 0]), (999, 1, [1]))

    def test_weights_beyond_their_bounds(self):
        tunnels = Tunnels([0, 1, 0], [1000, 1, 20000])
        self.assertEqual(best_set(tunnels, [1000, 20000, 999999999]), (999999999, 20000, [3]))
        self.assertEqual(prices(tunnels, [1000, 20000, 999999999], 999999999, 20000), [0, 0, 0])
        self.assertIsNone(prices(tunnels, [1000, 20000, 999999999], 999999998, 20000))

    def test_what_is_passed_and_returned_can_be_changed(self):
        tunnels, weights = Tunnels([0, 0], [1, 1]), [2, 2]
        best_set(tunnels, weights)[2].clear()
        prices(tunnels, weights, 2, 1).clear()
        self.assertEqual((best_set(tunnels, weights), weights), ((4, 2, [1, 2]), [2, 2]))


class Prices(Case):
    def terms(self, tunnels, weights, dice):
        weight, length, _ = best_set(tunnels, weights)
        yield weight, length
        if weight > 0:
            # Just below the greatest ratio, and far below it.
            yield weight * 1000 - 1, length * 1000
            yield weight - 1, length
            yield 0, 1
        yield weight * 1000 + 1, length * 1000
        yield 0, 7
        yield dice.randint(0, 5), dice.randint(1, 5)

    def test_some_prices(self):
        dice = random.Random(651)
        seen = {True: 0, False: 0}
        for tunnels, weights in CASES:
            sets = closed_sets(tunnels.shape.parents)
            for a, b in self.terms(tunnels, weights, dice):
                found = prices(tunnels, weights, a, b)
                better = [walls for walls in sets if b * measured(tunnels, weights, walls)[0]
                          > a * measured(tunnels, weights, walls)[1]]
                self.assertEqual(found is None, bool(better))
                seen[found is None] += 1
                if found is not None:
                    self.assertIs(type(found), list)
                    self.assertTrue(are_prices_by_definition(tunnels, weights, a, b, found))
                    self.assertIs(are_prices(tunnels, weights, a, b, found), True)
        self.assertGreater(min(seen.values()), 100)

    def test_offered_prices(self):
        dice = random.Random(652)
        seen = {True: 0, False: 0}
        for tunnels, weights in CASES:
            for a, b in self.terms(tunnels, weights, dice):
                good = prices(tunnels, weights, a, b) or [0] * len(weights)
                tried = [good, good[:-1], good + [0], [], [price + 1 for price in good], [-1, *good[1:]], [0] * len(good)]
                for _ in range(6):
                    changed = list(good)
                    changed[dice.randrange(len(good))] += dice.choice([-1, 1, 5])
                    tried.append(changed)
                for offered in tried:
                    expected = are_prices_by_definition(tunnels, weights, a, b, offered)
                    self.assertIs(are_prices(tunnels, weights, a, b, offered), expected)
                    self.assertIs(are_prices(tunnels, weights, a, b, tuple(offered)), expected)
                    seen[expected] += 1
        self.assertGreater(min(seen.values()), 200)

    def test_all_small_prices(self):
        tunnels, weights = Tunnels([0, 1, 1], [2, 1, 1]), [0, 3, 1]
        for a, b in ((1, 1), (4, 3), (3, 2), (2, 1), (0, 1)):
            found = [
                offered
                for offered in itertools.product(range(-1, 7), repeat=3)
                if are_prices(tunnels, weights, a, b, offered)
            ]
            for offered in itertools.product(range(-1, 7), repeat=3):
                self.assertEqual(offered in found, are_prices_by_definition(tunnels, weights, a, b, offered))
            self.assertEqual(bool(found), prices(tunnels, weights, a, b) is not None)


class Wrong(Case):
    def test_weights(self):
        tunnels = Tunnels([0, 1, 0], [1, 1, 1])
        for weights, place in (
            ([], 0), ([1], 1), ([0, 0], 2), ([0, 0, 0, 0], 4), ([-1], 0), ([0, -1], 1), ([0, 0, 0, -1], 3),
            ([0, -1, -2], 1), ([0, 0, -20000], 2), ((0, 0), 2), ((-1, 0, 0, 0, 0), 0),
        ):
            self.raises(BadWeight, {"place": place}, best_set, tunnels, weights)
            for a, b in ((1, 1), (-1, 0), (0, 0)):
                self.raises(BadWeight, {"place": place}, prices, tunnels, weights, a, b)
                for offered in ([], [0, 0, 0], [0]):
                    self.raises(BadWeight, {"place": place}, are_prices, tunnels, weights, a, b, offered)

    def test_a_and_b(self):
        tunnels = Tunnels([0, 1, 0], [1, 1, 1])
        for a, b, number in ((-1, 1, -1), (-20000, 0, -20000), (-1, -2, -1), (0, 0, 0), (3, -1, -1), (0, -20000, -20000)):
            self.raises(BadCount, {"number": number}, prices, tunnels, [0, 0, 0], a, b)
            for offered in ([], [0, 0, 0], [-1]):
                self.raises(BadCount, {"number": number}, are_prices, tunnels, [0, 0, 0], a, b, offered)


if __name__ == "__main__":
    unittest.main()
