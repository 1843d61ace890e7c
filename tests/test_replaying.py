import random
import unittest

import test_desk
from by_definition import Case
from by_meaning import rows_of_house, some_houses
from test_desk import Model, visible
from test_houses import clash

from everypast.desk import Desk
from everypast.errors import BadEntry, BadName
from everypast.houses import House
from everypast.layers import Layers
from everypast.notation import read_journal, write_journal
from everypast.replaying import replay
from everypast.shapes import star
from everypast.sites import Site
from everypast.stocks import Stock

NO_ENTRIES = (
    (), ("take",), ("take", "pits"), ("drop", "pits"), ("look", "a"), ("take", "pits", ("by", "a", 1), 1),
    ("drop", "pits", 0, 0), ("look", "a", 0, 0), ("ask", "pits", 0), ("undo",), ("redo",), ("", "pits", 0), (0, "pits", 0),
    (("drop",), "pits", 0), ("Drop", "pits", 0), ("pits", "drop", 0), ("take", "pits", "by"), ("take", "pits", 0),
    ("take", 0, ("by", "a", 1)), ("take", ("pits",), ("by", "a", 1)), ("drop", "pits", "0"), ("drop", "pits", (0,)),
    ("drop", 0, 0), ("drop", (), 0), ("look", "a", "0"), ("look", "a", (0,)), ("look", 1, 0), ("look", ("a",), 0),
    ("take", "pits", ()), ("take", "pits", ("by", "a", 9)), ("take", "none", ("by", "a", 1)), ("take", "", ()),
    ("take", "rest", ("rows", ("d",), ((1,), (2,), (3,)))), ("take", "pits", ("by", "b", 0)), ("drop", "pits", 2),
    ("drop", "pits", -1), ("drop", "z", 0), ("drop", "looks", 0), ("look", "z", 0), ("look", "a", 4), ("look", "a", -1),
    ("look", "b", 0), ("look", "pits", 0), ("take", "looks", ("bond", ("a", 1))),
)


def some_house():
    layers = Layers(["a", "b"], 3)
    layers.take(("after", "b", "a", 1))
    return House({"pits": layers, "rest": Site(Stock({"d": star(3)}))})


class Replaying(Case):
    def test_journals_of_some_work(self):
        dice = random.Random(820)
        deeds = 0
        for house, sites in some_houses(40, seed=821, most=3):
            if not rows_of_house(sites):
                continue
            desk, model = Desk(house), Model(sites)
            for _ in range(10):
                test_desk.Work().do_one(dice, desk, model, {})
            journal = list(desk)
            deeds += len(journal)
            asked = desk.asked
            self.assertEqual(asked, 0)
            for entries in (journal, tuple(journal), read_journal(write_journal(journal))):
                other = replay(house, entries)
                self.assertIs(type(other), Desk)
                self.assertEqual(visible(other), visible(desk))
            # What was undone before stands in no journal, and the deeds of the journal can be undone one by one.
            for entry in reversed(journal):
                self.assertEqual((other.undo(), desk.undo()), (entry, entry))
                self.assertEqual(visible(other), visible(desk))
        self.assertGreater(deeds, 80)

    def test_the_empty_journal(self):
        house = some_house()
        self.assertEqual(visible(replay(house, [])), visible(Desk(house)))
        self.assertEqual(len(replay(House({}), ())), 0)

    def test_one_entry_that_cannot_be_done(self):
        house = some_house()
        good = [("look", "a", 1), ("take", "rest", ("bond", ("d", 1))), ("drop", "rest", 0), ("drop", "looks", 0)]
        self.assertEqual(list(replay(house, good)), good)
        for wrong in NO_ENTRIES:
            for place in (0, 1):
                entries = [("take", "pits", ("not", "a", 3))] * place + [wrong, ("no", "entry"), *good]
                self.raises(BadEntry, {"place": place}, replay, house, entries)
        # A deed may be refused because of those before it.
        self.raises(BadEntry, {"place": 4}, replay, house, [*good, ("drop", "looks", 0)])
        self.raises(BadEntry, {"place": 1}, replay, house, [("look", "a", 1), ("look", "a", 2)])
        self.assertEqual(len(replay(house, [("look", "a", 1), ("drop", "looks", 0), ("look", "a", 2)])), 3)

    def test_errors_in_their_order(self):
        sites = clash()
        wrong = [("no", "entry")]
        self.raises_no_past(House(sites).family(), replay, House(sites), wrong)
        self.raises_no_past(House(sites).family(), replay, House(sites), [])
        sites["looks"] = Site(Stock({}))
        self.raises(BadName, {"name": "looks"}, replay, House(sites), wrong)

    def test_later_changes(self):
        house = some_house()
        journal = [("look", "a", 1)]
        desk = replay(house, journal)
        journal.append(("look", "a", 1))
        self.assertEqual(list(desk), [("look", "a", 1)])
        desk.undo()
        self.assertEqual(visible(desk), visible(Desk(house)))


if __name__ == "__main__":
    unittest.main()
