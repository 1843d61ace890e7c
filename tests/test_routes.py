import random
import unittest

from by_definition import Case, members, parted
from test_clerks import CLERKS, SHAPES

from everypast.clerks import Clerk, identity
from everypast.errors import BadLeg, BadPosition, BadSide
from everypast.routes import Route
from everypast.shapes import Shape, line, star


def clerk_of(parents, others, images):
    return Clerk(Shape(parents), Shape(others), list(images))


def some_routes(count, *, seed):
    """Routes of clerks between small shapes, with the lists of the parents and images of their clerks."""
    dice = random.Random(seed)
    routes = []
    for _ in range(count):
        start = dice.choice(SHAPES)
        before = start
        told = []
        for _ in range(dice.randint(0, 5)):
            told.append(dice.choice([clerk for clerk in CLERKS if clerk[0] == before and len(set(clerk[2])) > 1]))
            before = told[-1][1]
        routes.append((Route(Shape(start), *[clerk_of(*one) for one in told]), start, told))
    return routes


def copies(sign, told):
    found = [sign]
    for _, _, images in told:
        found.append(images[found[-1]])
    return found


def kept(start, told):
    """The walls of the first shape that are kept, word by word."""
    last = told[-1][1] if told else start
    images = [copies(sign, told)[-1] for sign in range(len(start) + 1)]
    walls = []
    for wall in range(1, len(start) + 1):
        for other in range(1, len(last) + 1):
            having = {sign for sign, image in enumerate(images) if image in members(last, other)}
            if having in (members(start, wall), members(start, -wall)):
                walls.append(wall)
                break
    return walls


ROUTES = some_routes(300, seed=440)


class Routes(Case):
    def test_attributes_and_clerks(self):
        for route, start, told in ROUTES:
            self.assertEqual(route.shape.parents, tuple(start))
            self.assertIs(type(route.clerks), tuple)
            self.assertEqual([clerk.images for clerk in route.clerks], [images for _, _, images in told])
            self.assertEqual((len(route), list(route)), (len(told), list(route.clerks)))

    def test_composed_and_copied(self):
        for route, start, told in ROUTES:
            composed = route.composed()
            self.assertIs(type(composed), Clerk)
            self.assertEqual(composed.shape.parents, tuple(start))
            self.assertEqual(composed.other.parents, tuple(told[-1][1] if told else start))
            for sign in range(len(start) + 1):
                expected = copies(sign, told)
                self.assertEqual(route.copied(sign), expected)
                self.assertEqual(composed(sign), expected[-1])

    def test_walls_kept_and_lost(self):
        losses = []
        for route, start, told in ROUTES:
            stages = [kept(start, told[:count]) for count in range(len(told) + 1)]
            self.assertEqual(route.walls_kept(), stages[-1])
            for wall in range(1, len(start) + 1):
                lost = [count for count, walls in enumerate(stages) if wall not in walls]
                self.assertEqual(route.loss(wall), lost[0] if lost else None)
                losses.append(route.loss(wall))
        self.assertGreater(losses.count(None), 100)
        self.assertGreater(losses.count(1), 50)
        self.assertGreater(len([loss for loss in losses if loss is not None and loss > 1]), 50)

    def test_signs_that_become_alike(self):
        seen = []
        for route, start, told in ROUTES:
            for first in range(len(start) + 1):
                for second in range(len(start) + 1):
                    pairs = zip(copies(first, told), copies(second, told))
                    equal = [count for count, (one, other) in enumerate(pairs) if one == other]
                    expected = equal[0] if equal else None
                    self.assertEqual(route.alike(first, second), expected)
                    seen.append(expected)
                    if first != second:
                        losses = [route.loss(wall) for wall in parted(start, first, second)]
                        self.assertEqual(expected, None if None in losses else max(losses))
        self.assertGreater(seen.count(None), 100)
        self.assertGreater(len([count for count in seen if count is not None and count > 1]), 50)

    def test_without_clerks(self):
        for shape in (line(1), star(3), line(8)):
            route = Route(shape)
            self.assertEqual((len(route), list(route), route.clerks), (0, [], ()))
            self.assertEqual(route.composed().images, identity(shape).images)
            self.assertEqual(route.walls_kept(), list(range(1, shape.size + 1)))
            self.assertEqual([route.loss(wall) for wall in range(1, shape.size + 1)], [None] * shape.size)
            self.assertEqual((route.copied(1), route.alike(1, 1), route.alike(0, 1)), ([1], 0, None))

    def test_a_clerk_whose_images_are_all_equal(self):
        flat = Clerk(line(2), star(2), [2, 2, 2])
        route = Route(line(2), identity(line(2)), flat, Clerk(star(2), line(1), [0, 1, 0]))
        self.assertEqual((route.walls_kept(), route.loss(1), route.loss(2)), ([], 2, 2))
        self.assertEqual((route.alike(0, 2), route.alike(1, 1), route.copied(1)), (2, 0, [1, 1, 2, 0]))
        self.assertEqual(route.composed().images, (0, 0, 0))

    def test_twelve_clerks_between_large_shapes(self):
        shape = line(8)
        down = Clerk(shape, shape, [0, 0, 1, 2, 3, 4, 5, 6, 7])
        route = Route(shape, *[down] * 12)
        self.assertEqual([route.loss(wall) for wall in range(1, 9)], list(range(1, 9)))
        self.assertEqual(route.copied(8), [8, 7, 6, 5, 4, 3, 2, 1, 0, 0, 0, 0, 0])
        self.assertEqual((route.alike(3, 5), route.alike(0, 8), len(route)), (5, 8, 12))

    def test_then(self):
        for route, start, told in ROUTES[:100]:
            before = list(route)
            last = told[-1][1] if told else start
            clerk = Clerk(Shape(last), line(1), [0] + [1] * len(last)) if len(last) == 1 else identity(Shape(last))
            longer = route.then(clerk)
            self.assertIs(type(longer), Route)
            self.assertEqual((list(longer), longer.shape), (before + [clerk], route.shape))
            self.assertEqual(list(route), before)
            other = identity(line(4))
            self.raises(BadLeg, {"place": len(told)}, route.then, other)

    def test_clerks_that_do_not_continue(self):
        one, two = identity(line(1)), identity(line(2))
        step = Clerk(line(1), line(2), [0, 2])
        self.raises(BadLeg, {"place": 0}, Route, line(2), one)
        self.raises(BadLeg, {"place": 1}, Route, line(1), step, one)
        self.raises(BadLeg, {"place": 2}, Route, line(1), one, step, step, one)
        self.raises(BadLeg, {"place": 0}, Route, star(2), two, one)
        self.assertEqual(len(Route(line(1), one, step, two)), 3)
        self.assertEqual(len(Route(Shape([0, 1]), two)), 1)

    def test_wrong_signs_and_walls(self):
        for route in (Route(line(2)), Route(line(2), Clerk(line(2), line(4), [0, 1, 4]))):
            for wrong in (-1, 3, 4):
                self.raises(BadPosition, {"position": wrong}, route.copied, wrong)
                self.raises(BadPosition, {"position": wrong}, route.alike, wrong, 99)
                self.raises(BadPosition, {"position": wrong}, route.alike, 0, wrong)
            for wrong in (0, -1, -2, 3, 4):
                self.raises(BadSide, {"side": wrong}, route.loss, wrong)

    def test_lists_are_new(self):
        clerks = [identity(line(2))]
        route = Route(line(2), *clerks)
        clerks.clear()
        route.walls_kept().clear()
        route.copied(1).clear()
        list(route).clear()
        self.assertEqual((len(route), route.walls_kept(), route.copied(1)), (1, [1, 2], [1, 1]))


if __name__ == "__main__":
    unittest.main()
