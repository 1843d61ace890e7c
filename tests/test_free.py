import itertools
import random
import unittest

from by_definition import Case, every_past, families_with_past, families_without_past, is_chain, other_side, row_has
from by_definition import sides, tied_families, ties

from everypast.errors import BadSide
from everypast.families import Family
from everypast.free import answers, count_free_sets, free, free_ties
from everypast.shapes import line, star
from everypast.stocks import Stock

FAMILIES = (
    families_with_past(100, seed=350) + families_with_past(30, seed=355, bonds=3) + tied_families(80, seed=351)
)
NO_WALLS = (("c", 1), ("a", 0), ("a", 2), ("a", -1), ("b", 3), ("b", -2), ("", 1))


def walls(family):
    return [side for side in sides(family.stock) if side[1] > 0]


def answered(family, chosen):
    """The rows of answers that occur in pasts, in ascending order."""
    rows = every_past(family)
    return sorted({tuple(1 if row_has(family.stock, row, wall) else -1 for wall in chosen) for row in rows})


def are_free(family, chosen):
    """Whether each choice of one side for each place of the list is had by some past."""
    return len(answered(family, chosen)) == 2 ** len(chosen)


def ties_are_free(family, tie, other):
    return any(
        are_free(family, [(wall[0], abs(wall[1])), (door[0], abs(door[1]))])
        for wall in tie
        for door in other
    )


class Free(Case):
    def check(self, family, chosen):
        answer = free(family, chosen)
        if are_free(family, chosen):
            self.assertEqual(answer, ("free",))
            return True
        word, first, second, path = answer
        self.assertEqual(word, "bound")
        self.assertTrue(is_chain(family, path, first, other_side(second)))
        for side in (first, second):
            self.assertIn((side[0], abs(side[1])), list(chosen))
        if first != second and first == other_side(second):
            self.assertGreater(list(chosen).count((first[0], abs(first[1]))), 1)
        return False

    def test_lists_of_walls(self):
        dice = random.Random(352)
        seen = {True: 0, False: 0}
        for family in FAMILIES:
            for count in range(5):
                few = dice.sample(walls(family), min(count, len(walls(family))))
                seen[self.check(family, few)] += 1
            many = [dice.choice(walls(family)) for _ in range(dice.randint(1, 6))]
            seen[self.check(family, tuple(many))] += 1
        self.assertGreater(min(seen.values()), 100)

    def test_all_pairs_of_walls(self):
        for family in FAMILIES[::4]:
            for first in walls(family):
                self.check(family, [first])
                for second in walls(family):
                    self.check(family, [first, second])

    def test_edges(self):
        whole = Family(Stock({"a": line(1), "b": star(2), "c": line(1)}), [])
        self.assertEqual(free(whole, []), ("free",))
        self.assertEqual(free(whole, [("c", 1), ("b", 2), ("a", 1)]), ("free",))
        self.assertFalse(self.check(whole, [("b", 1), ("b", 2)]))
        self.assertFalse(self.check(whole, [("a", 1), ("c", 1), ("a", 1)]))
        self.assertEqual(free(Family(Stock({}), []), []), ("free",))
        settled = whole.extended([(("a", -1),)])
        answer = free(settled, [("c", 1), ("a", 1)])
        self.assertEqual(answer, ("bound", ("a", 1), ("a", 1), ([("a", 1), ("a", -1)], [0])))
        answer[3][0].clear()
        answer[3][1].clear()
        self.assertFalse(self.check(settled, [("a", 1)]))

    def test_errors_in_their_order(self):
        stock = Stock({"a": line(1), "b": line(2)})
        for bonds in ([], [(("b", 1),), (("b", -1),)]):
            family = Family(stock, bonds)
            for wall in NO_WALLS:
                for function in (free, answers):
                    self.raises(BadSide, {"side": wall}, function, family, [("a", 1), wall, ("z", 1)])
                    self.raises(BadSide, {"side": wall}, function, family, (wall,))
        for family in families_without_past(60, seed=353):
            for chosen in ([], walls(family)[:1], walls(family)[:1] * 2):
                self.raises_no_past(family, free, family, chosen)
                self.raises_no_past(family, answers, family, chosen)
            self.raises_no_past(family, free_ties, family)
            self.raises_no_past(family, count_free_sets, family)
            self.raises_no_past(family, count_free_sets, family, limit=0)


class Answers(Case):
    def test_answers(self):
        dice = random.Random(354)
        for family in FAMILIES:
            for count in (0, 1, 2, 3, 6):
                chosen = [dice.choice(walls(family)) for _ in range(count)]
                expected = [list(row) for row in answered(family, chosen)]
                self.assertEqual(answers(family, chosen), expected)
                self.assertEqual(answers(family, tuple(chosen)), expected)

    def test_edges(self):
        whole = Family(Stock({"a": line(1), "b": star(2)}), [])
        self.assertEqual(answers(whole, []), [[]])
        self.assertEqual(answers(whole, [("a", 1)]), [[-1], [1]])
        self.assertEqual(answers(whole, [("a", 1), ("a", 1)]), [[-1, -1], [1, 1]])
        self.assertEqual(answers(whole, [("b", 2), ("b", 1)]), [[-1, -1], [-1, 1], [1, -1]])
        self.assertEqual(answers(whole.extended([(("b", 2),)]), [("b", 2), ("b", 1)]), [[1, -1]])
        chosen = [("a", 1)]
        found = answers(whole, chosen)
        found[0].clear()
        found.clear()
        self.assertEqual((answers(whole, chosen), chosen), ([[-1], [1]], [("a", 1)]))


class Ties(Case):
    def test_free_ties(self):
        seen = {True: 0, False: 0}
        for family in FAMILIES:
            listed = ties(family)
            expected = []
            for low, high in itertools.combinations(range(len(listed)), 2):
                together = ties_are_free(family, listed[low], listed[high])
                seen[together] += 1
                if together:
                    expected.append((low, high))
            self.assertEqual(free_ties(family), expected)
        self.assertGreater(min(seen.values()), 100)

    def test_free_sets(self):
        counts = []
        for family in FAMILIES:
            listed = ties(family)
            pairs = [
                pair
                for pair in itertools.combinations(range(len(listed)), 2)
                if ties_are_free(family, listed[pair[0]], listed[pair[1]])
            ]
            count = 0
            for chosen in itertools.product((False, True), repeat=len(listed)):
                members = [at for at, taken in enumerate(chosen) if taken]
                if all(pair in pairs for pair in itertools.combinations(members, 2)):
                    count += 1
            for limit in (0, 1, count - 1, count, count + 1, 200):
                self.assertEqual(count_free_sets(family, limit=limit), min(count, limit))
            self.assertEqual(count_free_sets(family), min(count, 50))
            self.assertTrue(len(listed) + 1 <= count <= 2 ** len(listed))
            counts.append(count)
        self.assertGreater(len([count for count in counts if count > 10]), 15)

    def test_edges(self):
        self.assertEqual(free_ties(Family(Stock({}), [])), [])
        self.assertEqual(count_free_sets(Family(Stock({}), [])), 1)
        whole = Family(Stock({"a": line(1), "b": star(2)}), [])
        self.assertEqual(free_ties(whole), [(0, 1), (0, 2)])
        self.assertEqual(count_free_sets(whole), 6)
        many = Family(Stock({name: line(2) for name in "abcd"}), [])
        self.assertEqual((count_free_sets(many), count_free_sets(many, limit=200)), (50, 81))
        single = whole.extended([(("a", 1),), (("b", 2),)])
        self.assertEqual((free_ties(single), count_free_sets(single)), ([], 1))
        free_ties(whole).clear()
        self.assertEqual(free_ties(whole), [(0, 1), (0, 2)])


if __name__ == "__main__":
    unittest.main()
