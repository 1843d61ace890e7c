import unittest

from everypast import errors
from everypast.errors import FindsError

WITH_NAME = ("BadName", "UnknownName", "SameSite", "NotALine", "UnlikeShapes")
WITHOUT = ("UnlikeStocks", "NotARound", "NothingToUndo", "NothingToRedo")
WITH_PLACE = (
    "BadShape", "BadBond", "BadImages", "BadFind", "BadIndex", "BadLeg", "BadSteps", "BadLength", "BadWeight",
    "BadCost", "BadLook", "BadEntry",
)
WITH_NUMBER = ("EvenCount", "BadCount", "BadSign")
OTHERS = (
    "BadLine", "BadPosition", "BadSide", "NotOpen", "NotCertain", "BadRow", "BadPast", "NotClosed", "NotKept",
    "NoPast", "NotTogether", "NoReading",
)


class Errors(unittest.TestCase):
    def test_all_are_direct_subclasses_of_the_base_class(self):
        self.assertEqual(FindsError.__bases__, (ValueError,))
        for name in WITH_NAME + WITHOUT + WITH_PLACE + WITH_NUMBER + OTHERS:
            self.assertEqual(getattr(errors, name).__bases__, (FindsError,), name)
            self.assertEqual(getattr(errors, name).__module__, "everypast.errors")

    def test_one_plain_attribute(self):
        for names, attribute, value in (
            (WITH_NAME, "name", "pot"), (WITH_PLACE, "place", 7), (WITH_NUMBER, "number", -3),
            (("BadLine",), "line", 2), (("BadPosition",), "position", -9),
            (("BadSide", "NotOpen", "NotCertain"), "side", ("a", -2)),
        ):
            for name in names:
                error = getattr(errors, name)(value)
                self.assertEqual(getattr(error, attribute), value, name)
                self.assertIsInstance(str(error), str)
        self.assertEqual(errors.UnlikeShapes("").name, "")
        self.assertEqual(errors.BadSide(0).side, 0)

    def test_no_attribute(self):
        for name in WITHOUT:
            self.assertEqual(vars(getattr(errors, name)()), {})

    def test_rows_and_positions_are_copied_as_lists(self):
        for error in (errors.BadRow, errors.BadPast):
            row = [1, 2]
            caught = error(row)
            row.append(3)
            self.assertEqual(caught.row, [1, 2])
            self.assertEqual(error((4, 5)).row, [4, 5])
        positions = [1, 2, 3]
        kept = errors.NotKept(positions)
        positions[0] = 9
        self.assertEqual(kept.positions, [1, 2, 3])
        self.assertEqual(errors.NotKept((1, 2, 3)).positions, [1, 2, 3])

    def test_lists_inside_are_copied(self):
        rows = [[0, 0], [1, 0], [0, 1]]
        closed = errors.NotClosed(rows)
        rows[1][0] = 9
        rows.pop()
        self.assertEqual(closed.rows, [[0, 0], [1, 0], [0, 1]])
        self.assertEqual(errors.NotClosed(((0,), (1,), (2,))).rows, [[0], [1], [2]])

    def test_chains_are_copied(self):
        there = ([("a", 1), ("a", -1)], [0])
        back = ([("a", -1), ("a", 1)], [1])
        ring = errors.NoPast(there, back)
        apart = errors.NotTogether(("a", 1), ("a", 1), there)
        for path in (there, back):
            path[0].clear()
            path[1].append(5)
        self.assertEqual(ring.there, ([("a", 1), ("a", -1)], [0]))
        self.assertEqual(ring.back, ([("a", -1), ("a", 1)], [1]))
        self.assertEqual((apart.first, apart.second), (("a", 1), ("a", 1)))
        self.assertEqual(apart.chain, ([("a", 1), ("a", -1)], [0]))

    def test_no_error_keeps_the_lists_themselves(self):
        path = ([("a", 1)], [])
        for error in (
            errors.BadRow([1]), errors.BadPast([1]), errors.NotClosed([[1], [2], [3]]), errors.NotKept([1, 2, 3]),
            errors.NoPast(path, path), errors.NotTogether(("a", 1), ("a", 1), path),
        ):
            self.assertEqual([type(part) for part in error.args], [str])

    def test_two_indexes(self):
        error = errors.NoReading(2, 5)
        self.assertEqual((error.first, error.second), (2, 5))


if __name__ == "__main__":
    unittest.main()
