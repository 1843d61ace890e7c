import itertools
import unittest

from by_definition import LARGE, Case, all_parents, majority, members, numbers, parted

from everypast.clerks import Clerk, identity, map_fault
from everypast.errors import BadImages, BadName, BadPosition, BadSide, NotKept, UnlikeShapes
from everypast.shapes import Shape, line, star
from everypast.tables import Table

SHAPES = [parents for size in range(1, 4) for parents in all_parents(size)]


def every_map(parents, others):
    return itertools.product(range(len(others) + 1), repeat=len(parents) + 1)


def is_fault(parents, others, images, three):
    image = images[majority(parents, three)]
    return image != majority(others, [images[position] for position in three])


def keeps_middles(parents, others, images):
    positions = range(len(parents) + 1)
    return not any(is_fault(parents, others, images, three) for three in itertools.combinations(positions, 3))


def every_clerk():
    """The parents of the first and second shape and the images of all clerks between small shapes."""
    return [
        (parents, others, images)
        for parents in SHAPES
        for others in SHAPES
        for images in every_map(parents, others)
        if keeps_middles(parents, others, images)
    ]


CLERKS = every_clerk()


class Maps(Case):
    def test_faults_of_all_maps_between_small_shapes(self):
        found = {True: 0, False: 0}
        for parents in SHAPES:
            for others in SHAPES:
                for images in every_map(parents, others):
                    kept = keeps_middles(parents, others, images)
                    found[kept] += 1
                    fault = map_fault(Shape(parents), Shape(others), list(images))
                    if kept:
                        self.assertIsNone(fault)
                    else:
                        self.assertIs(type(fault), list)
                        self.assertEqual(len(fault), 3)
                        self.assertTrue(is_fault(parents, others, images, fault))
        self.assertGreater(min(found.values()), 100)

    def test_maps_that_do_not_keep_middles_make_no_clerk(self):
        for parents, others in (([0, 1], [0]), ([0, 0, 0], [0, 1]), ([0, 1, 1], [0, 1, 2])):
            for images in every_map(parents, others):
                if not keeps_middles(parents, others, images):
                    with self.assertRaises(NotKept) as caught:
                        Clerk(Shape(parents), Shape(others), images)
                    positions = caught.exception.positions
                    self.assertIs(type(positions), list)
                    self.assertEqual(len(positions), 3)
                    self.assertTrue(is_fault(parents, others, images, positions))

    def test_large_shapes(self):
        for parents in LARGE:
            shape = Shape(parents)
            self.assertIsNone(map_fault(shape, shape, list(range(9))))
            self.assertIsNone(map_fault(shape, line(1), [0] * 9))
            for side in numbers(parents):
                images = [1 if position in members(parents, side) else 0 for position in range(9)]
                self.assertEqual(Clerk(shape, line(1), images).pulled(1), side)
        images = [0, 0, 0, 0, 1, 0, 0, 0, 0]
        self.assertTrue(is_fault(LARGE[0], [0], images, map_fault(line(8), line(1), images)))

    def test_wrong_images(self):
        shape, other = line(2), star(2)
        for images, place in (
            ([], 0), ([0], 1), ([0, 0], 2), ([0, 0, 0, 0], 4), ([3], 0), ([-1, 0, 0], 0), ([0, 3, -1], 1),
            ([0, 0, 3], 2), ([0, 0, 0, 3], 3), ([0, 0, 0, 0, 0], 5), ([0, 0, 0, 0, -1, 9], 4), ([0, 999999999], 1),
        ):
            for passed in (images, tuple(images)):
                self.raises(BadImages, {"place": place}, map_fault, shape, other, passed)
                self.raises(BadImages, {"place": place}, Clerk, shape, other, passed)

    def test_wrong_images_come_before_middles(self):
        self.raises(BadImages, {"place": 4}, Clerk, line(2), line(1), [0, 1, 0, 1])
        self.raises(BadImages, {"place": 2}, Clerk, line(2), line(1), [0, 1, 2])


class Clerks(Case):
    def test_attributes_and_images(self):
        first, second = Shape([0, 1, 1]), line(2)
        images = [0, 1, 1, 2]
        clerk = Clerk(first, second, images)
        images[0] = 2
        images.append(0)
        self.assertEqual(clerk.images, (0, 1, 1, 2))
        self.assertIs(type(clerk.images), tuple)
        self.assertEqual((clerk.shape.parents, clerk.other.parents), ((0, 1, 1), (0, 1)))
        self.assertEqual([clerk(position) for position in range(4)], [0, 1, 1, 2])
        self.assertEqual(Clerk(first, second, (0, 1, 1, 2)).images, (0, 1, 1, 2))

    def test_positions_out_of_bounds(self):
        clerk = Clerk(line(2), line(1), [0, 0, 1])
        for position in (-1, 3, 999999999):
            self.raises(BadPosition, {"position": position}, clerk, position)

    def test_walls_pulled_back(self):
        for parents, others, images in CLERKS:
            clerk = Clerk(Shape(parents), Shape(others), images)
            kept = []
            for wall in range(1, len(others) + 1):
                beyond = {position for position, image in enumerate(images) if image in members(others, wall)}
                sides = [side for side in numbers(parents) if members(parents, side) == beyond]
                self.assertEqual(clerk.pulled(wall), sides[0] if sides else None)
                kept.extend([abs(side) for side in sides])
            self.assertEqual(clerk.walls_kept(), sorted(set(kept)))

    def test_different_images_exactly_if_a_kept_wall_parts(self):
        for parents, others, images in CLERKS:
            kept = Clerk(Shape(parents), Shape(others), images).walls_kept()
            for first, second in itertools.combinations(range(len(parents) + 1), 2):
                parts = any(wall in kept for wall in parted(parents, first, second))
                self.assertIs(images[first] != images[second], parts)

    def test_all_images_equal(self):
        for position in range(4):
            clerk = Clerk(line(8), star(3), [position] * 9)
            self.assertEqual([clerk.pulled(wall) for wall in (1, 2, 3)], [None, None, None])
            self.assertEqual(clerk.walls_kept(), [])

    def test_wrong_walls(self):
        clerk = Clerk(line(8), star(3), [0] * 9)
        for wall in (0, -1, 4, -3, 8, 999999999):
            self.raises(BadSide, {"side": wall}, clerk.pulled, wall)

    def test_the_identity(self):
        for parents in SHAPES + list(LARGE):
            shape = Shape(parents)
            clerk = identity(shape)
            self.assertIsInstance(clerk, Clerk)
            self.assertEqual(clerk.images, tuple(range(len(parents) + 1)))
            self.assertEqual((clerk.shape.parents, clerk.other.parents), (shape.parents, shape.parents))
            self.assertEqual(clerk.walls_kept(), list(range(1, len(parents) + 1)))
            self.assertEqual([clerk.pulled(wall) for wall in clerk.walls_kept()], clerk.walls_kept())

    def test_returned_lists_are_new(self):
        clerk = identity(line(2))
        clerk.walls_kept().clear()
        self.assertEqual(clerk.walls_kept(), [1, 2])


class Composing(Case):
    def test_composed_images(self):
        firsts = [entry for entry in CLERKS if entry[1] == [0, 1]]
        seconds = [entry for entry in CLERKS if entry[0] == [0, 1]]
        for parents, middle_parents, images in firsts:
            for _, others, later in seconds:
                first = Clerk(Shape(parents), Shape(middle_parents), images)
                both = first * Clerk(Shape(middle_parents), Shape(others), later)
                self.assertIsInstance(both, Clerk)
                self.assertEqual(both.images, tuple(later[image] for image in images))
                self.assertEqual((both.shape.parents, both.other.parents), (tuple(parents), tuple(others)))
                self.assertEqual(first.images, images)

    def test_with_the_identity(self):
        for parents, others, images in CLERKS[::7]:
            clerk = Clerk(Shape(parents), Shape(others), images)
            self.assertEqual((identity(Shape(parents)) * clerk).images, images)
            self.assertEqual((clerk * identity(Shape(others))).images, images)

    def test_unlike_shapes(self):
        first = Clerk(line(2), line(1), [0, 0, 1])
        for second in (identity(line(2)), identity(star(2)), first):
            self.raises(UnlikeShapes, {"name": ""}, lambda one, two: one * two, first, second)
        self.raises(UnlikeShapes, {"name": ""}, lambda one, two: one * two, identity(line(2)), identity(star(2)))


class TablesOfClerks(Case):
    def test_tables(self):
        for parents, others, images in CLERKS:
            table = Clerk(Shape(parents), Shape(others), images).table("sign", "copy")
            self.assertIsInstance(table, Table)
            self.assertEqual(table.rows, tuple(enumerate(images)))
            self.assertEqual(table.stock.names, ("sign", "copy"))
            self.assertEqual(table.stock.shape_of("sign").parents, tuple(parents))
            self.assertEqual(table.stock.shape_of("copy").parents, tuple(others))
        self.assertEqual(identity(line(1)).table("b", "a").stock.names, ("b", "a"))

    def test_wrong_names(self):
        clerk = identity(line(1))
        for name in ("", "A", "1", "abcdefghi", "a b"):
            self.raises(BadName, {"name": name}, clerk.table, name, "b")
            self.raises(BadName, {"name": name}, clerk.table, "b", name)
            self.raises(BadName, {"name": name}, clerk.table, name, name)
        self.raises(BadName, {"name": "-"}, clerk.table, "-", "+")
        self.raises(BadName, {"name": "a"}, clerk.table, "a", "a")


if __name__ == "__main__":
    unittest.main()
