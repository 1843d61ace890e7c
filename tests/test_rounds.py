import unittest

from by_definition import LARGE, Case
from test_clerks import CLERKS
from test_routes import clerk_of, kept

from everypast.clerks import Clerk, identity
from everypast.errors import BadPosition, NotARound
from everypast.rounds import counts, home_signs, kept_for_ever, orbit, settling, swaps
from everypast.shapes import Shape, line, star

LINE = list(range(8))
LARGE_ROUNDS = [
    (LINE, LINE, (0, 0, 1, 2, 3, 4, 5, 6, 7)),
    (LINE, LINE, (8, 7, 6, 5, 4, 3, 2, 1, 0)),
    (LINE, LINE, (4,) * 9),
    (LINE, LINE, (1, 2, 3, 4, 5, 6, 7, 8, 8)),
    (LINE, LINE, (7, 6, 5, 5, 4, 3, 2, 1, 1)),
    ([0] * 8, [0] * 8, (0, 2, 3, 4, 5, 6, 7, 8, 1)),
    ([0] * 8, [0] * 8, (0, 2, 1, 4, 5, 3, 0, 6, 7)),
] + [(parents, parents, tuple(range(9))) for parents in LARGE]
ROUNDS = [told for told in CLERKS if told[0] == told[1]] + LARGE_ROUNDS


def counts_of(told):
    """V(0), V(1) and so on, for as many times as the shape has walls and some more."""
    return [len(kept(told[0], [told] * times)) for times in range(len(told[0]) + 3)]


class Rounds(Case):
    def test_counts_and_settling(self):
        late = 0
        for told in ROUNDS:
            clerk = clerk_of(*told)
            expected = counts_of(told)
            settled = min(times for times in range(len(expected) - 1) if expected[times] == expected[times + 1])
            self.assertEqual(counts(clerk), expected[:settled + 1])
            self.assertEqual(settling(clerk), settled)
            self.assertEqual(kept_for_ever(clerk), kept(told[0], [told] * (len(told[0]) + 2)))
            late += settled > 2
        self.assertGreater(late, 3)

    def test_as_many_images_as_walls_kept_and_one(self):
        for told in ROUNDS:
            signs = set(range(len(told[0]) + 1))
            for number in counts(clerk_of(*told)):
                self.assertEqual(len(signs), number + 1)
                signs = {told[2][sign] for sign in signs}

    def test_orbits(self):
        for told in ROUNDS:
            clerk = clerk_of(*told)
            for start in range(len(told[0]) + 1):
                found = orbit(clerk, start)
                self.assertEqual([type(found), *map(type, found)], [tuple, list, list])
                tail, ring = found
                self.assertEqual(len(set(tail + ring)), len(tail) + len(ring))
                self.assertGreater(len(ring), 0)
                sign = start
                for expected in tail + ring * 3:
                    self.assertEqual(sign, expected)
                    sign = told[2][sign]
                self.assertLessEqual(len(tail), settling(clerk))

    def test_home_signs_and_swaps(self):
        for told in ROUNDS:
            clerk = clerk_of(*told)
            images = told[2]
            signs = range(len(images))
            self.assertEqual(home_signs(clerk), [sign for sign in signs if images[sign] == sign])
            expected = [(x, y) for x in signs for y in signs if x < y and images[x] == y and images[y] == x]
            self.assertEqual(swaps(clerk), expected)
            self.assertTrue(home_signs(clerk) or swaps(clerk))

    def test_the_identity_and_a_round_that_settles_late(self):
        for shape in (line(1), star(4), line(8)):
            clerk = identity(shape)
            self.assertEqual((counts(clerk), settling(clerk)), ([shape.size], 0))
            self.assertEqual(kept_for_ever(clerk), list(range(1, shape.size + 1)))
            self.assertEqual((orbit(clerk, 1), swaps(clerk)), (([], [1]), []))
            self.assertEqual(home_signs(clerk), list(range(shape.size + 1)))
        down = clerk_of(*LARGE_ROUNDS[0])
        self.assertEqual((counts(down), settling(down)), ([8, 7, 6, 5, 4, 3, 2, 1, 0], 8))
        self.assertEqual((kept_for_ever(down), orbit(down, 8)), ([], ([8, 7, 6, 5, 4, 3, 2, 1], [0])))
        flat = clerk_of(*LARGE_ROUNDS[2])
        self.assertEqual((counts(flat), home_signs(flat), swaps(flat)), ([8, 0], [4], []))

    def test_swaps_and_long_rings(self):
        back = clerk_of(*LARGE_ROUNDS[1])
        self.assertEqual((swaps(back), home_signs(back)), ([(0, 8), (1, 7), (2, 6), (3, 5)], [4]))
        self.assertEqual((counts(back), orbit(back, 7)), ([8], ([], [7, 1])))
        around = clerk_of(*LARGE_ROUNDS[5])
        self.assertEqual((orbit(around, 3), settling(around)), (([], [3, 4, 5, 6, 7, 8, 1, 2]), 0))
        mixed = clerk_of(*LARGE_ROUNDS[6])
        self.assertEqual((orbit(mixed, 8), orbit(mixed, 4)), (([8, 7, 6], [0]), ([], [4, 5, 3])))
        self.assertEqual(swaps(mixed), [(1, 2)])
        self.assertEqual((counts(mixed), kept_for_ever(mixed)), ([8, 7, 6, 5], [1, 2, 3, 4, 5]))

    def test_clerks_that_are_no_rounds(self):
        for clerk in (
            Clerk(line(2), line(1), [0, 1, 1]), Clerk(line(2), star(2), [1, 0, 2]), Clerk(line(1), line(2), [0, 1]),
        ):
            for function in (counts, settling, kept_for_ever, home_signs, swaps):
                self.raises(NotARound, {}, function, clerk)
            for sign in (0, -1, 9):
                self.raises(NotARound, {}, orbit, clerk, sign)
        equal = Clerk(Shape([0, 1]), line(2), [2, 1, 0])
        self.assertEqual(counts(equal), [2])

    def test_wrong_signs(self):
        for sign in (-1, 3, 8):
            self.raises(BadPosition, {"position": sign}, orbit, identity(line(2)), sign)

    def test_lists_are_new(self):
        clerk = clerk_of(*LARGE_ROUNDS[4])
        before = (counts(clerk), kept_for_ever(clerk), orbit(clerk, 0), home_signs(clerk), swaps(clerk))
        for found in (counts(clerk), kept_for_ever(clerk), *orbit(clerk, 0), home_signs(clerk), swaps(clerk)):
            found.clear()
        self.assertEqual(
            (counts(clerk), kept_for_ever(clerk), orbit(clerk, 0), home_signs(clerk), swaps(clerk)), before
        )


if __name__ == "__main__":
    unittest.main()
