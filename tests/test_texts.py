import random
import unittest

from by_definition import Case, every_past, every_row, members, middle_of_rows, missing_middle, numbers, parted
from by_definition import state_of
from test_clerks import CLERKS, SHAPES
from test_routes import clerk_of

from everypast.clerks import Clerk, identity
from everypast.errors import BadFind, BadName, BadSide, NoReading, NotClosed, UnknownName, UnlikeShapes
from everypast.shapes import Shape, line, star
from everypast.sites import Site
from everypast.stocks import Stock
from everypast.texts import Text, readings, told_by


def copied_signs(text, find):
    """The signs that a "copy" find allows, word by word."""
    _, name, _, shown, slips = find
    clerk = text.clerk_of(name)
    others = list(clerk.other.parents)
    return {sign for sign, image in enumerate(clerk.images) if len(parted(others, image, shown)) <= slips}


def allowed_in(text):
    """What the finds of a text name and allow."""
    def allowed(find):
        if find[0] == "copy":
            return [find[2]], {(sign,) for sign in copied_signs(text, find)}
        if find[0] == "among":
            return [find[1]], {(sign,) for sign in find[2]}
        return [find[1], find[2]], {(sign, sign) for sign in range(text.shape.size + 1)}
    return allowed


def some_texts(count, *, seed, finds=6):
    dice = random.Random(seed)
    texts = []
    for _ in range(count):
        parents = dice.choice(SHAPES)
        told = [dice.choice([clerk for clerk in CLERKS if clerk[0] == parents]) for _ in range(dice.randint(1, 3))]
        clerks = {f"c{number}": clerk_of(*clerk) for number, clerk in enumerate(told)}
        places = ["p", "q", "c0"][:dice.randint(1, 3)]
        text = Text(places, Shape(parents), clerks)
        for _ in range(dice.randint(0, finds)):
            name = dice.choice(list(clerks))
            signs = [dice.randint(0, len(parents)) for _ in range(dice.randint(0, 2))]
            find = dice.choice([
                ("copy", name, dice.choice(places), dice.randint(0, clerks[name].other.size), dice.randint(0, 2)),
                ("copy", name, dice.choice(places), dice.randint(0, clerks[name].other.size), dice.randint(0, 1)),
                ("among", dice.choice(places), tuple(signs)),
                ("same", *(places * 2)[:2]),
            ])
            if find[1:] != ("p", "p"):
                text.take(find)
        texts.append(text)
    return texts


TEXTS = some_texts(200, seed=450)


class Creation(Case):
    def test_attributes(self):
        places = ["p", "q"]
        shape = star(3)
        clerks = {"ann": identity(shape), "bob": Clerk(star(3), line(1), [0, 1, 0, 0])}
        text = Text(places, shape, clerks)
        places.clear()
        kept = dict(clerks)
        clerks.clear()
        self.assertIsInstance(text, Site)
        self.assertEqual((text.places, text.clerk_names, text.stock.names), (("p", "q"), ("ann", "bob"), ("p", "q")))
        self.assertEqual((type(text.places), type(text.clerk_names)), (tuple, tuple))
        self.assertIs(text.shape, shape)
        self.assertEqual([text.stock.shape_of(name).parents for name in text.places], [(0, 0, 0)] * 2)
        for name in kept:
            self.assertIs(text.clerk_of(name), kept[name])
        for name in ("p", "", "cid"):
            self.raises(UnknownName, {"name": name}, text.clerk_of, name)
        self.assertEqual((len(text), list(text)), (0, []))

    def test_without_places_and_without_clerks(self):
        text = Text([], line(2), {})
        self.assertEqual((text.places, text.clerk_names), ((), ()))
        self.assertIs(text.allows([]), True)
        self.assertEqual(len(Text(("a",), line(1), {"a": identity(line(1))}).places), 1)

    def test_errors_in_their_order(self):
        fits, wrong = identity(line(2)), Clerk(line(1), line(2), [0, 2])
        for places, name in ((["A"], "A"), (["p", ""], ""), (["p", "q", "p", "Q"], "p")):
            self.raises(BadName, {"name": name}, Text, places, line(2), {"B": wrong})
            self.raises(BadName, {"name": name}, Text, tuple(places), line(2), {})
        for clerks, error, name in (
            ({"ann": fits, "B": wrong, "cid": wrong}, BadName, "B"), ({"": fits}, BadName, ""),
            ({"ann": fits, "bob": wrong, "C": fits}, UnlikeShapes, "bob"),
            ({"ann": identity(star(2))}, UnlikeShapes, "ann"),
        ):
            self.raises(error, {"name": name}, Text, ["p"], line(2), clerks)


class Finds(Case):
    def test_texts_with_some_finds(self):
        pasts = [len(self.check_site(text, allowed_in(text))) for text in TEXTS]
        self.assertGreater(pasts.count(0), 20)
        self.assertGreater(len([count for count in pasts if count > 1]), 50)

    def test_slips(self):
        text = Text(["p"], line(4), {"ann": identity(line(4)), "bob": Clerk(line(4), star(2), [1, 1, 0, 0, 2])})
        for name, sign, slips, signs in (
            ("ann", 2, 0, [2]), ("ann", 2, 1, [1, 2, 3]), ("ann", 0, 3, [0, 1, 2, 3]), ("ann", 4, 4, [0, 1, 2, 3, 4]),
            ("bob", 2, 0, [4]), ("bob", 2, 1, [2, 3, 4]), ("bob", 0, 0, [2, 3]), ("bob", 0, 1, [0, 1, 2, 3, 4]),
            ("ann", 1, 20000, [0, 1, 2, 3, 4]),
        ):
            site = text.twin()
            site.take(("copy", name, "p", sign, slips))
            self.assertEqual([sign for sign in range(5) if site.allows([sign])], signs)
            self.assertEqual(readings(site, "p"), ("common", signs))
            self.check_site(site, allowed_in(site))

    def test_signs(self):
        text = Text(["p", "q"], star(3), {})
        text.take_all([("among", "p", (2, 0, 1, 0)), ("among", "q", ()), ("same", "q", "p")])
        self.check_site(text, allowed_in(text))
        self.assertEqual(every_past(text.family()), [])
        text.drop(1)
        self.assertEqual(self.check_site(text, allowed_in(text)), [(0, 0), (1, 1), (2, 2)])

    def test_twins(self):
        text = Text(["p", "q"], star(3), {"ann": identity(star(3))})
        text.take_all([("copy", "ann", "p", 1, 0), ("same", "p", "q")])
        twin = text.twin()
        self.assertIs(type(twin), Text)
        self.assertEqual((twin.places, twin.clerk_names, twin.shape), (text.places, text.clerk_names, text.shape))
        self.assertIs(twin.clerk_of("ann"), text.clerk_of("ann"))
        before = state_of(text)
        twin.drop(0)
        twin.take(("copy", "ann", "q", 2, 1))
        self.assertEqual(state_of(text), before)
        self.check_site(twin, allowed_in(twin))


class Refusals(Case):
    def setUp(self):
        clerks = {"ann": identity(star(3)), "p": Clerk(star(3), line(1), [0, 1, 0, 0])}
        self.text = Text(["p", "q"], star(3), clerks)
        self.text.take_all([("copy", "p", "p", 1, 0), ("same", "p", "q")])

    def test_words_and_numbers_of_items(self):
        for find in (
            (), ("copy",), ("copy", "ann", "p", 0), ("copy", "ann", "p", 0, 0, 0), ("same", "p"), ("same", "p", "q", 0),
            ("among", "p"), ("among", "p", (), ()), ("rows", ("p",), ()), ("bond", ("p", 1)), ("level", "p", "q"),
            (0, "p", "q"), (("same",), "p", "q"), ("", "p", "q"), ("p", "q", "same"),
        ):
            self.refuses(self.text, find, BadFind, {"place": 0})

    def test_items(self):
        for wrong in ("q", "", "z", 0, ("ann",), ()):
            self.refuses(self.text, ("copy", wrong, "z", 9, -1), BadFind, {"place": 1})
        for wrong in ("ann", "", "z", 0, ("p",), ()):
            self.refuses(self.text, ("copy", "ann", wrong, 9, -1), BadFind, {"place": 2})
            self.refuses(self.text, ("same", wrong, wrong), BadFind, {"place": 1})
            self.refuses(self.text, ("same", "q", wrong), BadFind, {"place": 2})
            self.refuses(self.text, ("among", wrong, 5), BadFind, {"place": 1})
        self.refuses(self.text, ("same", "q", "q"), BadFind, {"place": 2})
        for name, wrongs in (("ann", (-1, 4, "1", (1,), ())), ("p", (-1, 2, 3, "0", ((0,),)))):
            for wrong in wrongs:
                self.refuses(self.text, ("copy", name, "q", wrong, -1), BadFind, {"place": 3})
        for wrong in (-1, -20000, "0", (0,), ()):
            self.refuses(self.text, ("copy", "p", "p", 1, wrong), BadFind, {"place": 4})
        for wrong in (0, "0", (4,), (0, -1), ("0",), ((0,),), (1, 2, 9), "", (0, ())):
            self.refuses(self.text, ("among", "q", wrong), BadFind, {"place": 2})

    def test_signs_that_are_not_closed(self):
        seen = {True: 0, False: 0}
        for parents in SHAPES:
            text = Text(["p"], Shape(parents), {})
            stock = Stock({"p": Shape(parents)})
            for mask in range(2 ** (len(parents) + 1)):
                signs = tuple(sign for sign in range(len(parents), -1, -1) if mask >> sign & 1)
                rows = [(sign,) for sign in signs]
                missing = missing_middle(stock, rows)
                seen[missing] += 1
                if missing:
                    error = self.refuses(text, ("among", "p", signs), NotClosed, {})
                    self.assertEqual([len(error.rows), *map(type, error.rows)], [3, list, list, list])
                    self.assertTrue(all(tuple(row) in rows for row in error.rows))
                    self.assertNotIn(tuple(middle_of_rows(stock, error.rows)), rows)
                    self.refuses(text, ("among", "p", signs + (9,)), BadFind, {"place": 2})
                else:
                    self.assertEqual(text.twin().take(("among", "p", signs + signs)), 0)
        self.assertGreater(min(seen.values()), 1)


class Readings(Case):
    def copies_for(self, text, place):
        return {
            at: copied_signs(text, find)
            for at, find in enumerate(text)
            if find[0] == "copy" and find[2] == place
        }

    def common(self, text, place):
        every = set(range(text.shape.size + 1))
        return sorted(every.intersection(*self.copies_for(text, place).values()))

    def is_apart(self, text, place, first, second):
        """Whether the two indexes are an answer for a place without a reading."""
        copies = self.copies_for(text, place)
        empty = [at for at in copies if not copies[at]]
        if empty:
            return first == second and first in empty
        return first in copies and second in copies and first < second and not copies[first] & copies[second]

    def test_readings(self):
        seen = {True: 0, False: 0}
        for text in TEXTS + some_texts(150, seed=451, finds=12):
            for place in text.places:
                common = self.common(text, place)
                answer = readings(text, place)
                seen[bool(common)] += 1
                if common:
                    self.assertEqual(answer, ("common", common))
                else:
                    word, first, second = answer
                    self.assertEqual(word, "apart")
                    self.assertTrue(self.is_apart(text, place, first, second))
        self.assertGreater(min(seen.values()), 30)

    def test_what_tells_a_side(self):
        seen = {"told": 0, "not told": 0, "no reading": 0}
        for text in TEXTS + some_texts(150, seed=452, finds=12):
            parents = list(text.shape.parents)
            for place in text.places:
                common = self.common(text, place)
                copies = self.copies_for(text, place)
                for side in numbers(parents):
                    if not common:
                        error = self.raises(NoReading, {}, told_by, text, place, side)
                        self.assertTrue(self.is_apart(text, place, error.first, error.second))
                        seen["no reading"] += 1
                        continue
                    expected = None
                    if set(common) <= members(parents, side):
                        expected = min(at for at in copies if copies[at] <= members(parents, side))
                    self.assertEqual(told_by(text, place, side), expected)
                    seen["not told" if expected is None else "told"] += 1
        self.assertGreater(min(seen.values()), 50)

    def test_a_place_without_finds(self):
        text = Text(["p", "q"], star(3), {"ann": identity(star(3))})
        text.take_all([("copy", "ann", "q", 1, 0), ("among", "p", (1,)), ("same", "p", "q")])
        self.assertEqual(readings(text, "p"), ("common", [0, 1, 2, 3]))
        self.assertEqual([told_by(text, "p", side) for side in numbers([0, 0, 0])], [None] * 6)
        self.assertEqual((readings(text, "q"), told_by(text, "q", 1), told_by(text, "q", -2)), (("common", [1]), 0, 0))
        readings(text, "p")[1].clear()
        self.assertEqual(readings(text, "p"), ("common", [0, 1, 2, 3]))

    def test_finds_that_allow_no_sign(self):
        shape = line(2)
        text = Text(["p"], shape, {"ann": identity(shape), "flat": Clerk(shape, line(8), [3, 3, 3])})
        text.take_all([("copy", "ann", "p", 0, 0), ("copy", "ann", "p", 2, 0), ("copy", "flat", "p", 8, 4)])
        self.assertEqual(readings(text, "p"), ("apart", 2, 2))
        self.raises(NoReading, {"first": 2, "second": 2}, told_by, text, "p", 1)
        text.drop(2)
        self.assertEqual(readings(text, "p"), ("apart", 0, 1))
        text.drop(0)
        self.assertEqual(readings(text, "p"), ("common", [2]))
        self.assertEqual(every_row(text.stock), [(0,), (1,), (2,)])

    def test_errors_in_their_order(self):
        text = Text(["p"], line(2), {"ann": identity(line(2))})
        text.take_all([("copy", "ann", "p", 0, 0), ("copy", "ann", "p", 2, 0)])
        for name in ("ann", "q", ""):
            self.raises(UnknownName, {"name": name}, readings, text, name)
            self.raises(UnknownName, {"name": name}, told_by, text, name, 9)
        for side in (0, 3, -3, 99):
            self.raises(BadSide, {"side": side}, told_by, text, "p", side)
        self.raises(NoReading, {"first": 0, "second": 1}, told_by, text, "p", -2)


if __name__ == "__main__":
    unittest.main()
