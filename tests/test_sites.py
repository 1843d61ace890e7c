import random
import unittest

from by_definition import Case, closed_rows, every_row, middle_of_rows, missing_middle, row_has, sides, some_stock
from by_definition import state_of

from everypast.errors import BadFind, BadIndex, BadRow, NotClosed
from everypast.shapes import Shape, line, star
from everypast.sites import Site
from everypast.stocks import Stock

STOCK = Stock({"a": line(2), "b": star(2), "c": line(1), "d": Shape([0, 1, 1])})


def allowed_in(stock):
    """What the finds of a plain site with this stock name and allow."""
    def allowed(find):
        if find[0] == "rows":
            return list(find[1]), {tuple(row) for row in find[2]}
        cells = [name for name in stock.names if name in [side[0] for side in find[1:]]]
        part = stock.part(cells)
        return cells, {row for row in every_row(part) if any(row_has(part, row, side) for side in find[1:])}
    return allowed


def some_find(dice, stock):
    if dice.random() < 0.3:
        return ("bond", *[dice.choice(sides(stock)) for _ in range(dice.randint(1, 2))])
    cells = dice.sample(stock.names, dice.randint(1, min(3, len(stock.names))))
    part = stock.part(cells)
    rows = [dice.choice(every_row(part)) for _ in range(dice.choice([0, 1, 2, 3, 5]))]
    rows = closed_rows(part, rows)
    return ("rows", tuple(cells), tuple(dice.sample(rows, len(rows)) + rows[:1]))


class Finds(Case):
    def test_a_new_site(self):
        for stock in (STOCK, Stock({})):
            site = Site(stock)
            self.assertIs(site.stock, stock)
            self.assertEqual((len(site), list(site), site.sources(), len(site.family())), (0, [], [], 0))
            self.assertEqual(site.take_all([]), 0)
            self.assertTrue(all(site.allows(row) for row in every_row(stock)))

    def test_sites_with_some_finds(self):
        dice = random.Random(400)
        pasts = []
        for _ in range(120):
            stock = some_stock(dice, 3, 3)
            site = Site(stock)
            finds = [some_find(dice, stock) for _ in range(dice.randint(0, 5))]
            for place, find in enumerate(finds):
                self.assertEqual(site.take(find), place)
            self.assertEqual(list(site), finds)
            pasts.append(len(self.check_site(site, allowed_in(stock))))
        self.assertGreater(pasts.count(0), 10)
        self.assertGreater(len([count for count in pasts if count > 1]), 30)

    def test_finds_over_three_cells_in_any_order(self):
        dice = random.Random(401)
        stock = Stock({"a": line(2), "b": star(2), "c": line(1)})
        for _ in range(30):
            cells = dice.sample(stock.names, 3)
            part = stock.part(cells)
            rows = closed_rows(part, [dice.choice(every_row(part)) for _ in range(4)])
            site = Site(stock)
            site.take(("rows", tuple(cells), tuple(rows)))
            self.assertEqual(len(self.check_site(site, allowed_in(stock))), len(rows))

    def test_a_find_without_rows(self):
        for cells in (("a",), ("b", "a"), ("d", "c", "a")):
            site = Site(STOCK)
            site.take(("rows", cells, ()))
            self.assertEqual(self.check_site(site, allowed_in(STOCK)), [])

    def test_a_row_several_times(self):
        site = Site(STOCK)
        self.assertEqual(site.take(("rows", ("c", "a"), ((1, 2), (0, 0), (1, 2), (1, 2)))), 0)
        self.assertEqual(list(site), [("rows", ("c", "a"), ((1, 2), (0, 0), (1, 2), (1, 2)))])
        self.check_site(site, allowed_in(STOCK))

    def test_equal_and_opposite_sides(self):
        site = Site(STOCK)
        finds = [
            ("bond", ("b", -2)), ("bond", ("a", 1), ("a", 1)), ("bond", ("c", -1), ("c", 1)),
            ("bond", ("d", 3), ("a", -2)), ("bond", ("d", 2), ("d", 3)),
        ]
        self.assertEqual(site.take_all(finds), 5)
        self.assertEqual([site.bonds_of(place) for place in range(5)], [[find[1:]] for find in finds])
        self.check_site(site, allowed_in(STOCK))

    def test_the_same_find_twice(self):
        find = ("rows", ("a", "c"), ((0, 0), (2, 1)))
        site = Site(STOCK)
        self.assertEqual((site.take(find), site.take(find), len(site)), (0, 1, 2))
        once = site.bonds_of(0)
        self.assertEqual(list(site.family()), once + once)
        self.assertEqual(site.sources(), [0] * len(once) + [1] * len(once))
        self.assertEqual(site.drop(0), find)
        self.assertEqual(list(site), [find])
        self.check_site(site, allowed_in(STOCK))

    def test_sites_without_cells(self):
        site = Site(Stock({}))
        self.assertIs(site.allows([]), True)
        self.refuses(site, ("rows", (), ((),)), BadFind, {"place": 1})
        self.refuses(site, ("rows", ("a",), ((0,),)), BadFind, {"place": 1})
        self.refuses(site, ("bond", ("a", 1)), BadFind, {"place": 1})
        self.raises(BadIndex, {"place": 0}, site.drop, 0)
        self.raises(BadRow, {"row": [0]}, site.allows, [0])


class Refusals(Case):
    def setUp(self):
        self.site = Site(STOCK)
        self.site.take_all([("rows", ("c", "a"), ((1, 2), (0, 0))), ("bond", ("b", 1))])

    def test_words_and_numbers_of_items(self):
        for find in (
            (), ("rows",), ("bond",), ("rows", ("a",)), ("rows", ("a",), ((0,),), 1), ("row", ("a",), ((0,),)),
            ("bond", ("a", 1), ("a", 1), ("a", 1)), ("", ("a",), ((0,),)), (1, 2, 3), (("rows",), ("a",), ()),
            (0,), ((), ()), ("level", "a", "c"), ("after", "a", "c", 1), ("same", "a", "c"), ("Rows", ("a",), ()),
            ("hidden", "a", "c"), ("rows bond", ("a",), ()), (("bond", ("a", 1)),),
        ):
            self.refuses(self.site, find, BadFind, {"place": 0})

    def test_cells(self):
        for cells in (
            (), ("a", "b", "c", "d"), ("z",), ("a", "z"), ("a", "a"), ("a", "b", "a"), "a", 1, ("",), (1,), (("a",),),
            ("a", ("b",)), ("a", 0), (((),),),
        ):
            for rows in ((), ((9, 9),), "a", 7):
                self.refuses(self.site, ("rows", cells, rows), BadFind, {"place": 1})

    def test_rows(self):
        for cells, rows in (
            (("a",), "a"), (("a",), 0), (("a",), (0,)), (("a",), ((),)), (("a",), ((0, 0),)), (("a",), ((3,),)),
            (("a",), ((0,), (-1,))), (("a",), ((0,), ("a",))), (("a",), (("0",),)), (("a",), (((0,),),)),
            (("a", "c"), ((2, 0), (0, 2))), (("a", "c"), ((0,), (0, 0))), (("a", "c"), ((0, 0, 0),)),
            (("c", "a"), ((2, 0),)), (("a", "b", "c"), ((0, 0, (0,)),)), (("a",), ((0,), "")), (("a",), ((0,), "a")),
        ):
            self.refuses(self.site, ("rows", cells, rows), BadFind, {"place": 2})

    def test_sides(self):
        for side in (
            (), ("a",), ("a", 0), ("a", 3), ("a", -3), ("z", 1), ("c", 2), ("a", 1, 1), "a", 1, (1, "a"), ("a", "a"),
            ("a", (1,)), (("a",), 1), (("a", 1),), ("", 1), "ab",
        ):
            self.refuses(self.site, ("bond", side), BadFind, {"place": 1})
            self.refuses(self.site, ("bond", side, side), BadFind, {"place": 1})
            self.refuses(self.site, ("bond", ("a", 1), side), BadFind, {"place": 2})

    def test_rows_that_are_not_closed(self):
        dice = random.Random(402)
        refused = 0
        for _ in range(200):
            cells = dice.sample(STOCK.names, dice.randint(1, 3))
            part = STOCK.part(cells)
            rows = tuple(dice.choice(every_row(part)) for _ in range(dice.randint(3, 6)))
            if missing_middle(part, rows):
                refused += 1
                error = self.refuses(self.site, ("rows", tuple(cells), rows), NotClosed, {})
                self.assertEqual((len(error.rows), [type(row) for row in error.rows]), (3, [list] * 3))
                self.assertTrue(all(tuple(row) in rows for row in error.rows))
                self.assertNotIn(tuple(middle_of_rows(part, error.rows)), rows)
            else:
                site = Site(STOCK)
                self.assertEqual(site.take(("rows", tuple(cells), rows)), 0)
        self.assertTrue(50 < refused < 190)

    def test_only_valid_items_are_asked_for_their_middles(self):
        rows = ((0, 0, 0), (1, 1, 0), (1, 0, 1))
        self.refuses(self.site, ("rows", ("a", "b", "c"), rows), NotClosed, {})
        self.refuses(self.site, ("rows", ("a", "b", "c"), rows + ((0, 0),)), BadFind, {"place": 2})
        self.refuses(self.site, ("rows", ("a", "b", "z"), rows), BadFind, {"place": 1})

    def test_the_first_find_that_is_refused(self):
        before = state_of(self.site)
        good = ("rows", ("a",), ((0,),))
        fault = ("rows", ("a", "b", "c"), ((0, 0, 0), (1, 1, 0), (1, 0, 1)))
        self.raises(NotClosed, {}, self.site.take_all, [good, fault, ()])
        self.raises(BadFind, {"place": 0}, self.site.take_all, (good, (), fault))
        self.raises(BadFind, {"place": 2}, self.site.take_all, [("rows", ("a",), 1), fault])
        self.assertEqual(state_of(self.site), before)
        self.assertEqual(self.site.take_all((good, good)), 2)
        self.assertEqual(list(self.site), before[0] + [good, good])

    def test_lists_in_errors_are_new(self):
        find = ("rows", ("a", "b", "c"), ((0, 0, 0), (1, 1, 0), (1, 0, 1)))
        for _ in range(2):
            error = self.raises(NotClosed, {}, self.site.take, find)
            self.assertEqual(sorted(error.rows), [[0, 0, 0], [1, 0, 1], [1, 1, 0]])
            error.rows[0].clear()
            error.rows.clear()


class Changes(Case):
    def setUp(self):
        self.finds = [("bond", ("a", 1)), ("rows", ("c", "a"), ((1, 2), (0, 0))), ("bond", ("b", -1), ("a", 2))]
        self.site = Site(STOCK)
        self.site.take_all(self.finds)

    def test_dropping(self):
        for place in range(3):
            site = self.site.twin()
            self.assertEqual(site.drop(place), self.finds[place])
            self.assertEqual(list(site), self.finds[:place] + self.finds[place + 1:])
            self.check_site(site, allowed_in(STOCK))
        dropped = [self.site.drop(2), self.site.drop(0), self.site.drop(0)]
        self.assertEqual(dropped, [self.finds[at] for at in (2, 0, 1)])
        self.assertEqual((list(self.site), len(self.site), self.site.sources()), ([], 0, []))
        self.raises(BadIndex, {"place": 0}, self.site.drop, 0)
        self.assertEqual(self.site.take(self.finds[1]), 0)
        self.check_site(self.site, allowed_in(STOCK))

    def test_wrong_indexes(self):
        for place in (-1, 3, -3, 100):
            self.raises(BadIndex, {"place": place}, self.site.drop, place)
            self.raises(BadIndex, {"place": place}, self.site.bonds_of, place)
        self.assertEqual(list(self.site), self.finds)

    def test_a_twin_changes_alone(self):
        twin = self.site.twin()
        self.assertIs(type(twin), Site)
        self.assertEqual((state_of(twin), twin.stock.names), (state_of(self.site), STOCK.names))
        twin.drop(0)
        twin.take(("bond", ("d", 1)))
        self.assertEqual(list(self.site), self.finds)
        self.check_site(self.site, allowed_in(STOCK))
        self.check_site(twin, allowed_in(STOCK))
        self.site.drop(2)
        self.site.drop(1)
        self.assertEqual(list(twin), self.finds[1:] + [("bond", ("d", 1))])
        self.check_site(self.site, allowed_in(STOCK))
        self.check_site(twin, allowed_in(STOCK))

    def test_lists_are_new(self):
        finds = list(self.finds)
        site = Site(STOCK)
        site.take_all(finds)
        finds.clear()
        before = state_of(site)
        site.bonds_of(1).clear()
        site.sources().clear()
        list(site).clear()
        self.assertEqual(state_of(site), before)
        family = site.family()
        site.drop(0)
        self.assertEqual(list(family), before[3])

    def test_rows_that_are_none(self):
        for row in ([], [0, 0, 0], [0, 0, 0, 4], [-1, 0, 0, 0], [0, 0, 0, 0, 0]):
            error = self.raises(BadRow, {"row": row}, self.site.allows, row)
            error.row.clear()
            self.raises(BadRow, {"row": row}, self.site.allows, tuple(row))


if __name__ == "__main__":
    unittest.main()
