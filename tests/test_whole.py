"""Runs that use many modules together: houses with sites of all kinds, held against the meanings of all finds."""

import itertools
import random
import unittest

import test_desk
from by_definition import Case, are_near, every_past, is_chain, is_ring, other_side, parting, row_has, sides, ties
from by_definition import walls_apart
from by_meaning import ALL_KINDS, READERS, names_of_house, onto, rows_of_house, some_sites_of_house
from test_desk import Model
from test_letters import letter_by_definition, shared_cells
from test_looks import all_looks, outcomes_of, shown
from test_spots import least_by_definition, some_spots
from test_talks import talk_by_definition

from everypast.claims import certain_sides, settle, verdict
from everypast.conflicts import conflict, unavoidable
from everypast.desk import Desk
from everypast.errors import NoPast
from everypast.free import count_free_sets
from everypast.houses import House, culprits, house_conflict, leans_on
from everypast.letters import family_by_letters, folded, letter
from everypast.listing import count_pasts, first_past, next_past, pasts
from everypast.looks import outcomes, settles
from everypast.news import news
from everypast.notation import read_journal, write_journal
from everypast.possible import possible_positions
from everypast.replaying import replay
from everypast.solving import solve, together
from everypast.spots import Spots, least_digging
from everypast.talks import talk
from everypast.twins import near_twins, trail


def some_large_houses(count, *, seed, bent):
    """Houses of four sites; all kinds of sites occur in each two houses that follow each other."""
    dice = random.Random(seed)
    found = []
    for number in range(count):
        kinds = dice.sample(ALL_KINDS, 4)
        if number % 2:
            kinds = [kind for kind in ALL_KINDS if kind not in found[-1][2]] + kinds[:2]
        sites = some_sites_of_house(dice, kinds, bent=bent)
        found.append((House(sites), {name: site.twin() for name, site in sites.items()}, kinds))
    return [(house, sites) for house, sites, _ in found]


HOUSES = some_large_houses(30, seed=900, bent=0) + some_large_houses(24, seed=901, bent=0.3)
WHOLE = [(house, sites, rows_of_house(sites)) for house, sites in HOUSES if rows_of_house(sites)]
BROKEN = [(house, sites) for house, sites in HOUSES if not rows_of_house(sites)]


class Whole(Case):
    def test_there_are_houses_of_all_kinds(self):
        self.assertGreater(len(WHOLE), 25)
        self.assertGreater(len(BROKEN), 5)
        for houses in (WHOLE, BROKEN):
            self.assertEqual({type(site) for house in houses for site in house[1].values()}, set(READERS))
        self.assertGreater(len([rows for _, _, rows in WHOLE if len(rows) > 4]), 12)

    def test_pasts_and_verdicts(self):
        for house, sites, rows in WHOLE:
            family = house.family()
            self.assertEqual(every_past(family), rows)
            self.assertEqual([tuple(row) for row in pasts(family, limit=200)], rows[:200])
            self.assertEqual(count_pasts(family, limit=200), min(len(rows), 200))
            self.assertEqual(count_free_sets(family, limit=200), min(len(rows), 200))
            self.assertEqual(first_past(family), list(rows[0]))
            self.assertIn(tuple(solve(family)), rows)
            row = rows[len(rows) // 2]
            later = [list(other) for other in rows if other > row]
            self.assertEqual(next_past(family, list(row)), later[0] if later else None)
            for side in sides(house.stock):
                having = [row for row in rows if row_has(house.stock, row, side)]
                word = {0: "impossible", len(rows): "certain"}.get(len(having), "open")
                self.assertEqual(verdict(family, side), word)
            for at, cell in enumerate(house.stock.names):
                self.assertEqual(possible_positions(family, cell), sorted({row[at] for row in rows}))
            # A past of the house gives a past of each site.
            for name, site in sites.items():
                self.assertTrue(all(site.allows(onto_site(house, row, site)) for row in rows[:20]))

    def test_twins_trails_and_looks(self):
        dice = random.Random(902)
        for house, _, rows in WHOLE:
            family = house.family()
            for side in [tie[0] for tie in ties(family)]:
                without, with_side = near_twins(family, side)
                self.assertTrue({tuple(without), tuple(with_side)} <= set(rows))
                self.assertTrue(are_near(family, without, with_side))
                self.assertEqual([row_has(house.stock, row, side) for row in (without, with_side)], [False, True])
                looks = dice.sample(all_looks(family), 2)
                views = {}
                for row in rows:
                    view = tuple(shown(family, look, row) for look in looks)
                    views.setdefault(view, set()).add(row_has(house.stock, row, side))
                settled = all(len(found) == 1 for found in views.values())
                self.assertEqual(settles(family, looks, side)[0], "settles" if settled else "twins")
            start, goal = dice.choice(rows), dice.choice(rows)
            steps = trail(family, start, goal)
            self.assertEqual((steps[0], steps[-1]), (list(start), list(goal)))
            self.assertEqual(len(steps) - 1, len(parting(family, start, goal)))
            self.assertTrue(all(are_near(family, *pair) for pair in zip(steps, steps[1:])))
            for look in dice.sample(all_looks(family), 3):
                self.assertEqual(outcomes(family, look), outcomes_of(family, look))

    def test_claims_and_news(self):
        dice = random.Random(903)
        for house, _, rows in WHOLE:
            family = house.family()
            for _ in range(12):
                claim = [dice.choice(sides(house.stock)) for _ in range(dice.randint(0, 3))]
                answer = settle(family, claim)
                holds = all(any(row_has(house.stock, row, side) for side in claim) for row in rows)
                self.assertEqual(answer[0], "holds" if holds else "fails")
                if holds:
                    _, first, second, path = answer
                    self.assertTrue({first, second} <= set(claim))
                    self.assertTrue(is_chain(family, path, other_side(first), second))
                else:
                    self.assertIn(tuple(answer[1]), rows)
                    self.assertFalse(any(row_has(house.stock, answer[1], side) for side in claim))
                having = [row for row in rows if all(row_has(house.stock, row, side) for side in claim)]
                self.assertEqual(together(family, claim)[0], "past" if having else "apart")
                if having:
                    start = dice.choice(rows)
                    nearest, _ = news(family, start, claim)
                    distances = [len(walls_apart(house.stock, start, row)) for row in having]
                    self.assertEqual(tuple(nearest), having[distances.index(min(distances))])
                    self.assertEqual(distances.count(min(distances)), 1)

    def test_houses_without_a_past(self):
        for house, sites in BROKEN:
            family = house.family()
            with self.assertRaises(NoPast) as caught:
                solve(family)
            self.assertTrue(is_ring(family, caught.exception.there, caught.exception.back))
            sources = house.sources()
            finds = [(name, place) for name, site in sites.items() for place in range(len(site))]
            found = house_conflict(house)
            others = [find for find in finds if find not in found]
            self.assertEqual(rows_of_house(sites, left_out=others), [])
            self.assertTrue(all(rows_of_house(sites, left_out=[*others, find]) for find in found))
            expected = [find for find in finds if rows_of_house(sites, left_out=[find])]
            self.assertEqual(culprits(house), expected)
            # A conflict of bonds belongs to finds that leave no past; an unavoidable bond belongs to a culprit.
            bonds = conflict(family)
            kept = {sources[bond] for bond in bonds}
            self.assertEqual(rows_of_house(sites, left_out=[find for find in finds if find not in kept]), [])
            self.assertTrue({sources[bond] for bond in unavoidable(family)} <= set(expected))
            for find in expected:
                name, place = find
                self.assertTrue(first_past(house.without_find(name, place).family()) is not None)

    def test_certain_sides_lean_on_finds(self):
        for house, sites, rows in WHOLE[:15]:
            finds = [(name, place) for name, site in sites.items() for place in range(len(site))]
            for side in certain_sides(house.family()):
                left = [
                    find
                    for find in finds
                    if not all(row_has(house.stock, row, side) for row in rows_of_house(sites, left_out=[find]))
                ]
                self.assertEqual(leans_on(house, side), left)

    def test_letters_and_foldings(self):
        dice = random.Random(904)
        for house, sites, rows in WHOLE:
            names = names_of_house(sites)
            for name in sites:
                self.assertEqual(letter(house, name), letter_by_definition(sites, name))
                family = family_by_letters(house, name)
                self.assertEqual(every_past(family), onto(names, rows, family.stock.names))
            smaller, left = house, dict(sites)
            while len(left) > 1:
                name, into = dice.sample(list(left), 2)
                shared = shared_cells(left, name)
                smaller = folded(smaller, name, into)
                left = {other: smaller.site(other) for other in smaller.names}
                self.assertTrue(set(shared) <= set(left[into].stock.names))
                self.assertEqual(every_past(smaller.family()), onto(names, rows, smaller.stock.names))
                self.assertEqual(rows_of_house(left), onto(names, rows, smaller.stock.names))
                for side in sides(smaller.stock):
                    self.assertEqual(verdict(smaller.family(), side), verdict(house.family(), side))

    def test_desks_talks_and_journals(self):
        dice = random.Random(905)
        deeds = 0
        for house, sites, rows in WHOLE:
            family = house.family()
            looks = [dice.choice(all_looks(family)) for _ in range(5)]
            truth = dice.choice(rows)
            rounds, left, kept = talk_by_definition(family, truth, looks)
            self.assertEqual(talk(family, truth, looks), (rounds, left))
            # A desk that notes the same looks at cells is left with the pasts that look alike to them.
            desk, model = Desk(house), Model(sites)
            cells = [("cell", looks[place][1]) for place, _, _ in rounds]
            for _, cell in cells:
                position = truth[house.stock.names.index(cell)]
                self.assertEqual(desk.look(cell, position), model.look(cell, position))
            alike = [row for row in rows if all(shown(family, look, row) == shown(family, look, truth) for look in cells)]
            self.assertEqual(every_past(desk.house.family()), alike)
            self.assertTrue(set(alike) <= set(kept))
            for _ in range(8):
                test_desk.Work().do_one(dice, desk, model, {})
            test_desk.Work().agree(desk, model)
            self.assertEqual(every_past(desk.house.family()), rows_of_house(model.sites))
            text = write_journal(desk)
            other = replay(house, read_journal(text))
            test_desk.Work().agree(other, model)
            self.assertEqual(write_journal(list(other)), text)
            deeds += len(other)
        self.assertGreater(deeds, 100)

    def test_digging_for_the_sides_of_a_house(self):
        dice = random.Random(906)
        found = 0
        for house, _, _ in WHOLE:
            family = house.family()
            loose = [side for tie in ties(family) for side in tie]
            for _ in range(3):
                tunnels, cells = some_spots(dice, house.stock.names)
                wanted = dice.sample(loose, min(len(loose), dice.randint(0, 3)))
                answer = least_digging(family, Spots(tunnels, cells), wanted)
                expected = least_by_definition(family, tunnels, cells, wanted)
                self.assertEqual(answer if answer is None else answer[0], expected)
                found += answer is not None and len(wanted) > 0
        self.assertGreater(found, 10)


def onto_site(house, row, site):
    """The positions that the row of the house has for the cells of the site."""
    return [row[house.stock.names.index(cell)] for cell in site.stock.names]


class Orders(Case):
    def test_the_order_of_the_sites_changes_no_past(self):
        for _, sites, rows in WHOLE[:6]:
            names = names_of_house(sites)
            for order in itertools.islice(itertools.permutations(sites), 0, None, 7):
                other = House({name: sites[name] for name in order})
                self.assertEqual(every_past(other.family()), onto(names, rows, other.stock.names))


if __name__ == "__main__":
    unittest.main()
