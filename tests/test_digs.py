import random
import unittest

from by_definition import Case, every_past, members, numbers, parted, state_of
from test_tunnels import some_tunnels

from everypast.digs import Digs, places
from everypast.errors import BadFind, BadName, BadRow, UnknownName
from everypast.sites import Site
from everypast.tunnels import Tunnels

SHAPES = [[0], [0, 1], [0, 0], [0, 1, 1, 0], [0, 1, 2], [0, 0, 1, 1, 2]]


def between(tunnels, first, second):
    walls = parted(list(tunnels.shape.parents), first, second)
    return sum(tunnels.lengths[wall - 1] for wall in walls)


def allowed_in(digs):
    """What the finds of a site of digs name and allow, word by word."""
    parents = list(digs.tunnels.shape.parents)
    every = range(len(parents) + 1)

    def allowed(find):
        word, thing = find[:2]
        if word == "beyond":
            return [thing], {(v,) for v in every if v in members(parents, find[2])}
        if word == "outside":
            return [thing], {(v,) for v in every if v not in members(parents, find[2])}
        if word == "within":
            return [thing], {(v,) for v in every if between(digs.tunnels, v, find[2]) <= find[3]}
        if word == "with":
            return [thing, find[2]], {(v, v) for v in every}
        branch = members(parents, find[3])
        return [thing, find[2]], {(v, w) for v in every for w in every if (v in branch) == (w in branch)}
    return allowed


def some_find(dice, digs):
    size = digs.tunnels.shape.size
    first, second = dice.sample(digs.things * 2, 2)
    wall = dice.randint(1, size)
    finds = [
        ("beyond", first, wall), ("outside", first, wall), ("outside", first, wall),
        ("within", first, dice.randint(0, size), dice.randint(0, 12)),
        ("within", first, dice.randint(0, size), dice.choice([0, 1, 5])),
    ]
    if first != second:
        finds += [("same", first, second, wall), ("same", first, second, wall), ("with", first, second)]
    return dice.choice(finds)


def some_sites(count, *, seed, things=3, finds=4):
    dice = random.Random(seed)
    sites = []
    for _ in range(count):
        tunnels = some_tunnels(dice, dice.choice(SHAPES))
        names = ["pot", "ring", "a0"][:dice.randint(1, things if tunnels.shape.size < 4 else 2)]
        digs = Digs(names, tunnels)
        digs.take_all([some_find(dice, digs) for _ in range(dice.randint(0, finds))])
        sites.append(digs)
    return sites


class Creation(Case):
    def test_attributes(self):
        names = ["pot", "ring"]
        tunnels = Tunnels([0, 1, 0], [2, 1, 3])
        digs = Digs(names, tunnels)
        names.clear()
        self.assertIsInstance(digs, Site)
        self.assertEqual((digs.things, digs.stock.names, list(digs)), (("pot", "ring"), ("pot", "ring"), []))
        self.assertIs(type(digs.things), tuple)
        self.assertIs(digs.tunnels, tunnels)
        self.assertEqual([digs.stock.shape_of(name).parents for name in digs.things], [(0, 1, 0)] * 2)

    def test_without_things_and_without_finds(self):
        digs = Digs([], Tunnels([0], [1]))
        self.assertEqual((digs.things, self.check_site(digs, allowed_in(digs))), ((), [()]))
        self.refuses(digs, ("beyond", "pot", 1), BadFind, {"place": 1})
        digs = Digs(("pot",), Tunnels([0], [1]))
        self.assertEqual(self.check_site(digs, allowed_in(digs)), [(0,), (1,)])
        self.assertEqual(places(digs, "pot"), ("places", [0, 1]))

    def test_names(self):
        for names, wrong in ((["A"], "A"), (["a", ""], ""), (["a", "b", "a", "B"], "a"), (("a", "a"), "a")):
            self.raises(BadName, {"name": wrong}, Digs, names, Tunnels([0], [1]))

    def test_twins(self):
        digs = Digs(["a", "b"], Tunnels([0, 1], [1, 2]))
        digs.take_all([("with", "a", "b"), ("within", "b", 0, 1)])
        twin = digs.twin()
        self.assertIs(type(twin), Digs)
        self.assertEqual((twin.things, state_of(twin)), (("a", "b"), state_of(digs)))
        self.assertIs(twin.tunnels, digs.tunnels)
        before = state_of(digs)
        twin.drop(0)
        twin.take(("beyond", "a", 2))
        self.assertEqual(state_of(digs), before)
        self.assertEqual(self.check_site(twin, allowed_in(twin)), [(2, 0), (2, 1)])


class Finds(Case):
    def test_sites_with_some_finds(self):
        pasts = [len(self.check_site(digs, allowed_in(digs))) for digs in some_sites(120, seed=680)]
        self.assertGreater(pasts.count(0), 10)
        self.assertGreater(len([count for count in pasts if count > 1]), 40)

    def test_lengths(self):
        digs = Digs(["a"], Tunnels([0, 1, 1, 0], [1, 20, 300, 999]))
        for place, length, found in (
            (2, 0, [2]), (0, 0, [0]), (2, 19, [2]), (2, 20, [1, 2]), (1, 1, [0, 1]), (2, 21, [0, 1, 2]), (3, 299, [3]),
            (3, 320, [0, 1, 2, 3]), (4, 998, [4]), (4, 999, [0, 4]), (0, 1320, [0, 1, 2, 3, 4]),
            (4, 20000, [0, 1, 2, 3, 4]), (0, 301, [0, 1, 2, 3]),
        ):
            site = digs.twin()
            site.take(("within", "a", place, length))
            self.assertEqual(self.check_site(site, allowed_in(site)), [(v,) for v in found])
            self.assertEqual(places(site, "a"), ("places", found))

    def test_branches(self):
        digs = Digs(["a", "b"], Tunnels([0, 1, 1, 0], [1, 1, 1, 1]))
        for find, count in (
            (("beyond", "a", 1), 15), (("outside", "a", 1), 10), (("beyond", "b", 4), 5), (("outside", "b", 4), 20),
            (("same", "a", "b", 1), 13), (("same", "b", "a", 2), 17), (("with", "b", "a"), 5),
        ):
            site = digs.twin()
            site.take(find)
            self.assertEqual(len(self.check_site(site, allowed_in(site))), count)

    def test_a_find_twice(self):
        digs = Digs(["a", "b"], Tunnels([0, 0], [1, 1]))
        find = ("same", "a", "b", 1)
        self.assertEqual((digs.take(find), digs.take(find), list(digs)), (0, 1, [find, find]))
        self.check_site(digs, allowed_in(digs))
        self.assertEqual(digs.drop(1), find)
        self.assertEqual(len(self.check_site(digs, allowed_in(digs))), 5)
        self.raises(BadRow, {"row": [0, 3]}, digs.allows, [0, 3])


class Refusals(Case):
    def setUp(self):
        self.digs = Digs(["a", "b"], Tunnels([0, 1, 0], [2, 1, 3]))
        self.digs.take_all([("outside", "a", 3), ("same", "a", "b", 1)])

    def test_words_and_numbers_of_items(self):
        for find in (
            (), ("beyond",), ("beyond", "a"), ("beyond", "a", 1, 1), ("outside", "a"), ("same", "a", "b"),
            ("same", "a", "b", 1, 1), ("with", "a"), ("with", "a", "b", 1), ("within", "a", 0), ("within", "a", 0, 0, 0),
            ("shade", "a", 0, 0), ("rows", ("a",), ()), ("bond", ("a", 1)), (0, "a", 1), (("with",), "a", "b"), ("", "a", 1),
        ):
            self.refuses(self.digs, find, BadFind, {"place": 0})

    def test_things(self):
        for wrong in ("c", "", 0, ("a",), ()):
            for find in (("beyond", wrong, 9), ("outside", wrong, "x"), ("same", wrong, wrong, 0), ("with", wrong, "b"),
                         ("within", wrong, 9, -1)):
                self.refuses(self.digs, find, BadFind, {"place": 1})
            self.refuses(self.digs, ("same", "a", wrong, 0), BadFind, {"place": 2})
            self.refuses(self.digs, ("with", "b", wrong), BadFind, {"place": 2})
        self.refuses(self.digs, ("same", "a", "a", 0), BadFind, {"place": 2})
        self.refuses(self.digs, ("with", "b", "b"), BadFind, {"place": 2})

    def test_walls_positions_and_lengths(self):
        for wrong in (0, -1, 4, 20000, "1", "", (1,), ()):
            self.refuses(self.digs, ("beyond", "a", wrong), BadFind, {"place": 2})
            self.refuses(self.digs, ("outside", "b", wrong), BadFind, {"place": 2})
            self.refuses(self.digs, ("same", "a", "b", wrong), BadFind, {"place": 3})
        for wrong in (-1, 4, 20000, "0", "", (0,), ()):
            self.refuses(self.digs, ("within", "a", wrong, -1), BadFind, {"place": 2})
        for wrong in (-1, -20000, "0", "", (0,), ()):
            self.refuses(self.digs, ("within", "a", 3, wrong), BadFind, {"place": 3})


class Places(Case):
    def allowed_alone(self, digs, thing):
        allowed = allowed_in(digs)
        return {
            at: {v for (v,) in allowed(find)[1]}
            for at, find in enumerate(digs)
            if find[0] in ("beyond", "outside", "within") and find[1] == thing
        }

    def test_places(self):
        seen = {"places": 0, "apart": 0}
        for digs in some_sites(300, seed=690, finds=9):
            for thing in digs.things:
                sets = self.allowed_alone(digs, thing)
                every = set(range(digs.tunnels.shape.size + 1))
                common = sorted(every.intersection(*sets.values()))
                answer = places(digs, thing)
                seen[answer[0]] += 1
                if common:
                    self.assertEqual(answer, ("places", common))
                else:
                    word, first, second = answer
                    self.assertEqual(word, "apart")
                    self.assertLess(first, second)
                    self.assertFalse(sets[first] & sets[second])
        self.assertGreater(min(seen.values()), 60)

    def test_each_find_alone_allows_a_connected_set(self):
        for digs in some_sites(80, seed=691):
            parents = list(digs.tunnels.shape.parents)
            for thing in digs.things:
                for found in self.allowed_alone(digs, thing).values():
                    self.assertTrue(found)
                    shared = [side for side in numbers(parents) if found <= members(parents, side)]
                    around = {v for v in range(len(parents) + 1) if all(v in members(parents, side) for side in shared)}
                    self.assertEqual(around, found)

    def test_only_finds_for_the_thing_alone_count(self):
        digs = Digs(["a", "b"], Tunnels([0, 0, 0], [1, 1, 1]))
        digs.take_all([
            ("with", "a", "b"), ("same", "a", "b", 1), ("beyond", "b", 1), ("within", "a", 1, 3), ("outside", "a", 2),
            ("within", "b", 0, 0), ("beyond", "a", 3), ("beyond", "a", 1),
        ])
        self.assertEqual(every_past(digs.family()), [])
        self.assertEqual(places(digs, "b"), ("apart", 2, 5))
        self.assertEqual(places(digs, "a"), ("apart", 6, 7))
        digs.drop(7)
        self.assertEqual(places(digs, "a"), ("places", [3]))
        places(digs, "a")[1].clear()
        self.assertEqual(places(digs, "a"), ("places", [3]))

    def test_unknown_names(self):
        for digs in (Digs([], Tunnels([0], [1])), some_sites(1, seed=692)[0]):
            for name in ("z", "", "A"):
                self.raises(UnknownName, {"name": name}, places, digs, name)


if __name__ == "__main__":
    unittest.main()
