import random
import unittest

from by_definition import Case, sides, walls_apart
from by_meaning import READERS, names_of_house, rows_of_house, some_houses
from test_houses import clash, state_of_house
from test_sites import some_find

from everypast.claims import settle
from everypast.desk import Desk
from everypast.errors import BadFind, BadIndex, BadName, BadPosition, BadSide, FindsError, NoPast, NotClosed
from everypast.errors import NothingToRedo, NothingToUndo, UnknownName
from everypast.houses import House
from everypast.layers import Layers
from everypast.shapes import line, star
from everypast.sites import Site
from everypast.stocks import Stock

HOUSES = [(house, sites) for house, sites in some_houses(60, seed=750, most=3) if rows_of_house(sites)]


def visible(desk):
    """What can be seen of a desk, in new lists."""
    return (state_of_house(desk.house), list(desk.picture), list(desk), len(desk), desk.asked)


class Model:
    """What a desk should do, by the words of the document: sites, a picture, entries, and all states before."""

    def __init__(self, sites):
        self.sites = {name: site.twin() for name, site in sites.items()}
        self.picture = list(rows_of_house(self.sites)[0])
        self.entries = []
        self.before = []
        self.undone = []

    def copy(self):
        return {name: site.twin() for name, site in self.sites.items()}

    def do(self, entry, sites, picture):
        self.before.append((self.sites, self.picture))
        self.entries.append(entry)
        self.undone = []
        self.sites, self.picture = sites, picture

    def take(self, name, find):
        """Whether the deed is done; otherwise it leaves no past."""
        sites = self.copy()
        sites[name].take(find)
        rows = rows_of_house(sites)
        if rows:
            picture = self.picture if tuple(self.picture) in rows else list(rows[0])
            self.do(("take", name, find), sites, picture)
        return bool(rows)

    def drop(self, name, place):
        sites = self.copy()
        find = sites[name].drop(place)
        self.do(("drop", name, place), sites, self.picture)
        return find

    def look(self, cell, position):
        """The walls that change, or None if the deed leaves no past."""
        names = names_of_house(self.sites)
        shapes = {name: site.stock.shape_of(name) for site in self.sites.values() for name in site.stock.names}
        stock = Stock({name: shapes[name] for name in names})
        sites = self.copy()
        finds = list(sites["looks"]) if "looks" in sites else []
        cells = list(sites["looks"].stock.names) if "looks" in sites else []
        if cell not in cells:
            cells.append(cell)
        sites["looks"] = Site(Stock({name: shapes[name] for name in cells}))
        sites["looks"].take_all(finds + [("rows", (cell,), ((position,),))])
        rows = rows_of_house(sites)
        if not rows:
            return None
        distances = [len(walls_apart(stock, self.picture, row)) for row in rows]
        assert distances.count(min(distances)) == 1
        nearest = list(rows[distances.index(min(distances))])
        changes = walls_apart(stock, self.picture, nearest)
        self.do(("look", cell, position), sites, nearest)
        return changes

    def undo(self):
        self.undone.append((self.entries.pop(), self.sites, self.picture))
        self.sites, self.picture = self.before.pop()
        return self.undone[-1][0]

    def redo(self):
        entry, sites, picture = self.undone.pop()
        self.before.append((self.sites, self.picture))
        self.entries.append(entry)
        self.sites, self.picture = sites, picture
        return entry


def finds_of(dice, site):
    """A find that the site may take, for sites that are plain or take some of these."""
    if type(site) is Site:
        return some_find(dice, site.stock)
    cell = dice.choice(site.stock.names)
    high = dice.randint(0, 3)
    return dice.choice([
        ("from", cell, 1), ("by", cell, 1), ("not", cell, high), ("shade", cell, high - 1, high), ("beyond", cell, 1),
        ("outside", cell, 2), ("within", cell, 0, high), ("among", cell, (0, 1)), ("dips", cell, 0, 1),
    ])


class Creation(Case):
    def test_new_desks(self):
        self.assertEqual(set(READERS), {type(site) for _, sites in HOUSES for site in sites.values()})
        for house, sites in HOUSES:
            desk = Desk(house)
            self.assertIsInstance(desk.house, House)
            self.assertEqual(state_of_house(desk.house), state_of_house(house))
            self.assertEqual(desk.picture, list(rows_of_house(sites)[0]))
            self.assertEqual((len(desk), list(desk), desk.asked), (0, [], 0))

    def test_a_house_without_sites(self):
        desk = Desk(House({}))
        self.assertEqual((desk.picture, len(desk), list(desk)), ([], 0, []))
        self.assertEqual(desk.ask([]), ("fails", []))
        self.raises(UnknownName, {"name": "a"}, desk.look, "a", 0)
        self.raises(UnknownName, {"name": "looks"}, desk.take, "looks", ())
        self.raises(NothingToUndo, {}, desk.undo)
        self.raises(NothingToRedo, {}, desk.redo)

    def test_errors_in_their_order(self):
        sites = clash()
        self.raises_no_past(House(sites).family(), Desk, House(sites))
        sites["looks"] = Site(Stock({}))
        self.raises(BadName, {"name": "looks"}, Desk, House(sites))
        self.raises(BadName, {"name": "looks"}, Desk, House({"looks": Layers(["a"], 1)}))

    def test_the_picture_is_a_new_list(self):
        desk = Desk(HOUSES[0][0])
        before = visible(desk)
        desk.picture.clear()
        first = desk.picture
        first.append(1)
        self.assertEqual(visible(desk), before)


class Work(Case):
    def agree(self, desk, model):
        """Compare a desk with its model."""
        self.assertEqual(desk.house.names, tuple(model.sites))
        self.assertEqual(list(desk.house.stock.names), names_of_house(model.sites))
        for name, site in model.sites.items():
            found = desk.house.site(name)
            self.assertIs(type(found), type(site))
            self.assertEqual((found.stock.names, list(found)), (site.stock.names, list(site)))
        self.assertEqual(desk.picture, model.picture)
        self.assertIn(tuple(model.picture), rows_of_house(model.sites))
        self.assertEqual((list(desk), len(desk)), (model.entries, len(model.entries)))

    def refuse(self, desk, error, attributes, function, *args):
        before = visible(desk)
        self.raises(error, attributes, function, *args)
        self.assertEqual(visible(desk), before)

    def do_one(self, dice, desk, model, seen):
        name = dice.choice(list(model.sites))
        kind = dice.choice(["take", "take", "drop", "look", "look", "undo", "undo", "redo", "redo"])
        before = visible(desk)
        if kind == "take":
            find = finds_of(dice, model.sites[name]) if len(model.sites[name].stock) > 0 else ()
            try:
                done = model.take(name, find)
            except FindsError as error:
                told = {"place": error.place} if isinstance(error, BadFind) else {"rows": error.rows}
                self.refuse(desk, type(error), told, desk.take, name, find)
                kind = "bad find"
            else:
                if done:
                    self.assertEqual(desk.take(name, find), len(model.sites[name]) - 1)
                else:
                    kind = "no past"
                    with self.assertRaises(NoPast):
                        desk.take(name, find)
                    self.assertEqual(visible(desk), before)
        elif kind == "drop" and len(model.sites[name]) > 0:
            place = dice.randrange(len(model.sites[name]))
            self.assertEqual(desk.drop(name, place), model.drop(name, place))
        elif kind == "look":
            at = dice.randrange(len(desk.house.stock.names))
            cell = desk.house.stock.names[at]
            position = dice.randint(0, 2)
            changes = model.look(cell, position)
            if changes is None:
                kind = "no past"
                with self.assertRaises(NoPast):
                    desk.look(cell, position)
                self.assertEqual(visible(desk), before)
            else:
                self.assertEqual(desk.look(cell, position), changes)
        elif kind == "undo":
            if model.entries:
                self.assertEqual(desk.undo(), model.undo())
            else:
                self.refuse(desk, NothingToUndo, {}, desk.undo)
        elif kind == "redo":
            if model.undone:
                self.assertEqual(desk.redo(), model.redo())
                kind = "redone"
            else:
                self.refuse(desk, NothingToRedo, {}, desk.redo)
        seen[kind] = seen.get(kind, 0) + 1

    def test_some_work(self):
        dice = random.Random(751)
        seen = {}
        for house, sites in HOUSES:
            desk, model = Desk(house), Model(sites)
            at_first = state_of_house(house)
            for _ in range(14):
                self.do_one(dice, desk, model, seen)
                self.agree(desk, model)
            while model.entries:
                self.assertEqual(desk.undo(), model.undo())
                self.agree(desk, model)
            while model.undone:
                self.assertEqual(desk.redo(), model.redo())
                self.agree(desk, model)
            self.assertEqual(state_of_house(house), at_first)
        self.assertEqual(set(seen), {"take", "bad find", "no past", "drop", "look", "undo", "redo", "redone"})
        self.assertGreater(min(seen.values()), 15)

    def some_desk(self):
        layers = Layers(["a", "b", "c"], 3)
        layers.take_all([("after", "b", "a", 1), ("after", "c", "b", 0)])
        plain = Site(Stock({"c": line(3), "d": star(3)}))
        plain.take(("bond", ("c", -3), ("d", 2)))
        sites = {"pits": layers, "rest": plain}
        return Desk(House(sites)), Model(sites)

    def test_pictures(self):
        desk, model = self.some_desk()
        self.assertEqual(desk.picture, [0, 1, 1, 0])
        # The picture stays where it is a past of the new house, otherwise it is the first past.
        for site, find, picture in (
            ("pits", ("by", "a", 1), [0, 1, 1, 0]), ("rest", ("bond", ("d", 3), ("d", 1)), [0, 1, 1, 1]),
            ("pits", ("from", "b", 2), [0, 2, 2, 1]),
        ):
            self.assertEqual((desk.take(site, find), model.take(site, find)), (len(model.sites[site]) - 1, True))
            self.assertEqual(desk.picture, picture)
            self.agree(desk, model)
        self.assertEqual(desk.drop("pits", 3), ("from", "b", 2))
        model.drop("pits", 3)
        self.assertEqual(desk.picture, [0, 2, 2, 1])
        self.agree(desk, model)
        self.assertEqual((desk.look("c", 1), model.look("c", 1)), ([("b", 2), ("c", 2)],) * 2)
        self.assertEqual(desk.picture, [0, 1, 1, 1])
        self.agree(desk, model)

    def test_looks(self):
        desk, model = self.some_desk()
        for cell, position, changes in (
            ("b", 1, []), ("c", 3, [("c", 2), ("c", 3), ("d", 2)]), ("c", 3, []), ("b", 1, []), ("d", 2, []), ("a", 0, []),
        ):
            self.assertEqual((desk.look(cell, position), model.look(cell, position)), (changes, changes))
            self.agree(desk, model)
        looks = desk.house.site("looks")
        self.assertIs(type(looks), Site)
        self.assertEqual((desk.house.names, looks.stock.names), (("pits", "rest", "looks"), ("b", "c", "d", "a")))
        self.assertEqual(
            list(looks), [("rows", (cell,), ((v,),)) for cell, v in (("b", 1), ("c", 3), ("c", 3), ("b", 1), ("d", 2),
                                                                     ("a", 0))]
        )
        self.assertEqual(desk.house.stock.names, ("a", "b", "c", "d"))
        # The site keeps its cells, and stays, when its finds are dropped.
        for left in range(5, -1, -1):
            self.assertEqual(desk.drop("looks", 0), model.drop("looks", 0))
            self.agree(desk, model)
            self.assertEqual(len(desk.house.site("looks")), left)
        self.assertEqual(desk.house.site("looks").stock.names, ("b", "c", "d", "a"))
        self.assertEqual(desk.take("looks", ("bond", ("d", -2), ("a", 1))), 0)
        self.assertTrue(model.take("looks", ("bond", ("d", -2), ("a", 1))))
        self.agree(desk, model)
        self.raises(UnknownName, {"name": "z"}, desk.look, "z", 0)
        # Only undoing the looks takes the cells and the site away.
        for left in ([4] * 7 + [4, 3, 2, 2, 2, 1]):
            self.assertEqual(len(desk.house.site("looks").stock), left)
            self.assertEqual(desk.undo(), model.undo())
            self.agree(desk, model)
        self.assertEqual((desk.house.names, len(desk)), (("pits", "rest"), 0))
        while model.undone:
            self.assertEqual(desk.redo(), model.redo())
            self.agree(desk, model)

    def test_more_looks_than_a_site_has_finds_and_cells(self):
        names = ["a", "b", "c", "d", "e", "f"]
        sites = {"one": Layers(names, 1), "two": Layers(["g", "h"], 1)}
        desk, model = Desk(House(sites)), Model(sites)
        for cell in [*names, "g", "h", *names, "h", "g"]:
            self.assertEqual(desk.look(cell, 1), model.look(cell, 1))
        self.agree(desk, model)
        self.assertEqual((len(desk.house.site("looks").stock), len(desk.house.site("looks"))), (8, 16))

    def test_a_deed_after_an_undo(self):
        desk, model = self.some_desk()
        for position in (1, 1):
            desk.look("b", position), model.look("b", position)
        self.assertEqual(desk.undo(), model.undo())
        # Refused deeds and questions leave what can be done again.
        self.refuse(desk, BadPosition, {"position": 4}, desk.look, "b", 4)
        self.refuse(desk, NoPast, {}, desk.look, "b", 0)
        self.refuse(desk, NoPast, {}, desk.take, "pits", ("by", "b", 0))
        self.refuse(desk, BadIndex, {"place": 2}, desk.drop, "pits", 2)
        desk.ask([("b", 2)])
        self.assertEqual(desk.redo(), model.redo())
        self.agree(desk, model)
        for _ in range(2):
            self.assertEqual(desk.undo(), model.undo())
        self.assertEqual(desk.drop("rest", 0), model.drop("rest", 0))
        self.agree(desk, model)
        self.refuse(desk, NothingToRedo, {}, desk.redo)
        self.assertEqual(list(desk), [("drop", "rest", 0)])

    def test_errors_in_their_order(self):
        desk, _ = self.some_desk()
        for name in ("", "z", "looks", "a"):
            self.refuse(desk, UnknownName, {"name": name}, desk.take, name, ("by", "a", 9))
            self.refuse(desk, UnknownName, {"name": name}, desk.drop, name, 9)
        for find, place in (
            ((), 0), (("rows", ("a",), ()), 0), (("from", "z", 9), 1), (("from", "a", 4), 2), (("level", "a", "a"), 2),
        ):
            self.refuse(desk, BadFind, {"place": place}, desk.take, "pits", find)
        rows = tuple((v,) for v in (1, 2, 3))
        self.refuse(desk, NotClosed, {}, desk.take, "rest", ("rows", ("d",), rows))
        other = desk.house.site("pits")
        other.take(("by", "c", 0))
        self.raises_no_past(desk.house.with_site("pits", other).family(), desk.take, "pits", ("by", "c", 0))
        for place in (-1, 2, 20000):
            self.refuse(desk, BadIndex, {"place": place}, desk.drop, "pits", place)
        for name in ("z", "", "pits"):
            self.refuse(desk, UnknownName, {"name": name}, desk.look, name, 9)
        for position in (-1, 4, 20000):
            self.refuse(desk, BadPosition, {"position": position}, desk.look, "c", position)
        self.refuse(desk, NoPast, {}, desk.look, "c", 0)

    def test_the_ring_of_a_refused_look(self):
        desk, _ = self.some_desk()
        desk.look("a", 0)
        looks = Site(Stock({"a": line(3), "c": line(3)}))
        looks.take_all([("rows", ("a",), ((0,),)), ("rows", ("c",), ((0,),))])
        self.raises_no_past(desk.house.with_site("looks", looks).family(), desk.look, "c", 0)
        looks = Site(Stock({"a": line(3)}))
        looks.take_all([("rows", ("a",), ((0,),)), ("rows", ("a",), ((2,),))])
        self.raises_no_past(desk.house.with_site("looks", looks).family(), desk.look, "a", 2)

    def test_questions(self):
        dice = random.Random(752)
        for house, _ in HOUSES[:20]:
            desk = Desk(house)
            listed = sides(house.stock)
            for count in range(1, 6):
                claim = [dice.choice(listed) for _ in range(dice.randint(0, 3))]
                self.assertEqual(desk.ask(claim), settle(house.family(), claim))
                self.assertEqual(desk.asked, count)
            self.raises(BadSide, {"side": ("z", 1)}, desk.ask, [listed[0], ("z", 1), ("y", 1)])
            self.assertEqual((desk.asked, len(desk)), (6, 0))
            desk.look(house.stock.names[0], desk.picture[0])
            desk.undo()
            self.assertEqual(desk.asked, 6)
            desk.redo()
            desk.ask([])
            self.assertEqual(desk.asked, 7)

    def test_two_desks_for_one_house(self):
        house, _ = HOUSES[1]
        first, second = Desk(house), Desk(house)
        before = visible(second)
        first.look(house.stock.names[0], first.picture[0])
        first.ask([])
        self.assertEqual(visible(second), before)
        self.assertEqual(len(first), 1)

    def test_what_is_returned_can_be_changed(self):
        desk, model = self.some_desk()
        desk.look("c", 3).clear()
        model.look("c", 3)
        list(desk).clear()
        desk.house.site("looks").drop(0)
        self.agree(desk, model)


if __name__ == "__main__":
    unittest.main()
