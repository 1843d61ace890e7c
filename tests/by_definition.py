"""What the tests compare the program with: the words of the document, tried on all positions and rows.

Of the program itself, this uses only the attributes of shapes, stocks and families, and the shapes of cells.
"""

import functools
import itertools
import random
import unittest

from everypast.errors import FindsError, NoPast
from everypast.families import Family
from everypast.shapes import Shape
from everypast.stocks import Stock


class Case(unittest.TestCase):
    """A test case that can ask for an error of exactly one class with exact attributes."""

    def raises(self, error, attributes, function, *args, **more):
        with self.assertRaises(FindsError) as caught:
            function(*args, **more)
        self.assertIs(type(caught.exception), error)
        for name, value in attributes.items():
            found = getattr(caught.exception, name)
            self.assertEqual(found, value)
            self.assertIs(type(found), type(value))
        return caught.exception

    def refuses(self, site, find, error, attributes):
        """Taking the find raises this error, also among other finds, and each time the site is as it was."""
        before = state_of(site)
        found = self.raises(error, attributes, site.take, find)
        self.assertEqual(state_of(site), before)
        self.raises(error, attributes, site.take_all, [*before[0], find, ("no such find",)])
        self.assertEqual(state_of(site), before)
        return found

    def check_site(self, site, allowed):
        """The site's bonds, family, sources and rows are those of its finds.

        `allowed(find)` gives the cells that the find names and the set of the rows of positions that it allows.
        """
        stock = site.stock
        finds = list(site)
        self.assertEqual(len(site), len(finds))
        bonds = []
        sources = []
        left = every_row(stock)
        for place, find in enumerate(finds):
            cells, rows = allowed(find)
            at = [stock.names.index(cell) for cell in cells]
            fitting = [row for row in every_row(stock) if tuple(row[index] for index in at) in rows]
            own = [find[1:]] if find[0] == "bond" else tight(stock, fitting, cells)
            self.assertEqual(site.bonds_of(place), own)
            self.assertIs(type(site.bonds_of(place)), list)
            bonds.extend(own)
            sources.extend([place] * len(own))
            left = [row for row in left if row in fitting]
        family = site.family()
        self.assertIs(type(family), Family)
        self.assertEqual((family.stock.names, list(family)), (stock.names, bonds))
        self.assertEqual(site.sources(), sources)
        self.assertEqual(every_past(family), left)
        for row in every_row(stock):
            self.assertIs(site.allows(row), row in left)
            self.assertIs(site.allows(list(row)), row in left)
        return left

    def raises_no_past(self, family, function, *args, **more):
        """The call raises NoPast with a ring of the family, each time with new lists."""
        for _ in range(2):
            with self.assertRaises(NoPast) as caught:
                function(*args, **more)
            error = caught.exception
            self.assertTrue(is_ring(family, error.there, error.back))
            for path in (error.there, error.back):
                path[0].clear()
                path[1].clear()


def state_of(site):
    """What can be seen of a site, in new lists."""
    return (list(site), len(site), [list(site.bonds_of(place)) for place in range(len(site))], list(site.family()))


# Shapes, given by their parents.

def all_parents(size):
    """The parents of all shapes of this size."""
    return [list(parents) for parents in itertools.product(*[range(place + 1) for place in range(size)])]


def small_parents():
    """The parents of all shapes of one to four walls."""
    return [parents for size in range(1, 5) for parents in all_parents(size)]


LARGE = (
    [0, 1, 2, 3, 4, 5, 6, 7],
    [0, 0, 0, 0, 0, 0, 0, 0],
    [0, 1, 1, 0, 4, 4, 2, 3],
    [0, 0, 1, 1, 2, 2, 3, 3],
)


def path_to_root(parents, position):
    path = [position]
    while path[-1] != 0:
        path.append(parents[path[-1] - 1])
    return path


def members(parents, side):
    """The set of the positions of a side."""
    return _members(tuple(parents), side)


@functools.cache
def _members(parents, side):
    everything = range(len(parents) + 1)
    branch = {position for position in everything if abs(side) in path_to_root(parents, position)}
    return frozenset(branch if side > 0 else set(everything) - branch)


def numbers(parents):
    """All sides of a shape in their order."""
    return [side for wall in range(1, len(parents) + 1) for side in (wall, -wall)]


def parted(parents, first, second):
    """The walls that part two positions."""
    return [
        wall
        for wall in range(1, len(parents) + 1)
        if (first in members(parents, wall)) != (second in members(parents, wall))
    ]


def between(parents, first, second):
    """The set of the positions that have every side that both positions have."""
    shared = [side for side in numbers(parents) if {first, second} <= members(parents, side)]
    return {
        position
        for position in range(len(parents) + 1)
        if all(position in members(parents, side) for side in shared)
    }


def majority(parents, positions):
    """The positions that have, for each wall, the side that more than half of the positions have."""
    sides = []
    for side in numbers(parents):
        if 2 * len([position for position in positions if position in members(parents, side)]) > len(positions):
            sides.append(side)
    found = [
        position
        for position in range(len(parents) + 1)
        if all(position in members(parents, side) for side in sides)
    ]
    assert len(found) == 1
    return found[0]


# Stocks and rows.

def parents_of(stock, name):
    return list(stock.shape_of(name).parents)


def sides(stock):
    return [(name, number) for name in stock.names for number in numbers(parents_of(stock, name))]


def other_side(side):
    return (side[0], -side[1])


def every_row(stock):
    """All rows of the stock, as tuples, in ascending order."""
    return list(itertools.product(*[range(len(parents_of(stock, name)) + 1) for name in stock.names]))


def row_has(stock, row, side):
    place = list(stock.names).index(side[0])
    return row[place] in members(parents_of(stock, side[0]), side[1])


def keeps(stock, row, bond):
    return any(row_has(stock, row, side) for side in bond)


def inside(stock, side, other):
    if side[0] != other[0]:
        return False
    parents = parents_of(stock, side[0])
    return members(parents, side[1]) <= members(parents, other[1])


def middle_of_rows(stock, rows):
    return [
        majority(parents_of(stock, name), [row[place] for row in rows])
        for place, name in enumerate(stock.names)
    ]


def tight(stock, rows, cells):
    """The tight bonds of a set of rows over some cells, word by word."""
    chosen = [side for side in sides(stock) if side[0] in cells]
    having = {side: {row for row in every_row(stock) if row_has(stock, row, side)} for side in sides(stock)}
    everything = set(every_row(stock))
    rows = {tuple(row) for row in rows}

    def holds(*bond):
        return all(any(row in having[side] for side in bond) for row in rows)

    def narrower(side):
        return [other for other in sides(stock) if other != side and inside(stock, other, side)]

    found = []
    for side in chosen:
        if holds(side) and not any(holds(other) for other in narrower(side)):
            found.append((side,))
    for at, first in enumerate(chosen):
        for second in chosen[at + 1:]:
            if not holds(first, second) or having[first] | having[second] == everything:
                continue
            if holds(first) or holds(second):
                continue
            if any(holds(other, second) for other in narrower(first)):
                continue
            if any(holds(first, other) for other in narrower(second)):
                continue
            found.append((first, second))
    return found


def missing_middle(stock, rows):
    """Whether the middle of some three of the rows is not one of them."""
    listed = {tuple(row) for row in rows}
    return any(
        tuple(middle_of_rows(stock, three)) not in listed
        for three in itertools.combinations_with_replacement(sorted(listed), 3)
    )


def closed_rows(stock, rows):
    """The least set of rows that contains these rows and all middles, in ascending order."""
    found = {tuple(row) for row in rows}
    while True:
        added = {tuple(middle_of_rows(stock, three)) for three in itertools.combinations(sorted(found), 3)} - found
        if not added:
            return sorted(found)
        found |= added


# Families.

def every_past(family):
    """All pasts of the family, as tuples, in ascending order."""
    return list(_every_past(family))


@functools.cache
def _every_past(family):
    # Families never change, so each one is tried only once.
    rows = every_row(family.stock)
    return tuple(row for row in rows if all(keeps(family.stock, row, bond) for bond in family.bonds))


def steps(family, side):
    """The pairs (target, source) of all steps from a side, as a set."""
    found = set()
    for target in sides(family.stock):
        if target == side:
            continue
        if inside(family.stock, side, target):
            found.add((target, -1))
        for source, bond in enumerate(family.bonds):
            if len(bond) == 2 and sorted(bond) == sorted([other_side(side), target]):
                found.add((target, source))
            if set(bond) == {target} and target == other_side(side):
                found.add((target, source))
    return found


def step_counts(family, side):
    """The sides to which a side leads, each with the least number of steps."""
    counts = {side: 0}
    border = [side]
    while border:
        later = []
        for before in border:
            for target, _ in steps(family, before):
                if target not in counts:
                    counts[target] = counts[before] + 1
                    later.append(target)
        border = later
    return counts


def is_chain(family, path, start, goal):
    """Whether the path is a chain of the family from `start` to `goal`, in two lists."""
    if not (isinstance(path, tuple) and len(path) == 2):
        return False
    path_sides, sources = path
    if not (isinstance(path_sides, list) and isinstance(sources, list)):
        return False
    if len(path_sides) != len(sources) + 1 or len(set(path_sides)) != len(path_sides):
        return False
    if path_sides[0] != start or path_sides[-1] != goal:
        return False
    return all(
        (path_sides[at + 1], source) in steps(family, path_sides[at])
        for at, source in enumerate(sources)
    )


def is_ring(family, there, back):
    start = there[0][0]
    goal = other_side(start)
    return is_chain(family, there, start, goal) and is_chain(family, back, goal, start)


@functools.cache
def had_by(family, side):
    """The pasts that have the side, as a set."""
    return frozenset(row for row in every_past(family) if row_has(family.stock, row, side))


def open_sides(family):
    count = len(every_past(family))
    return [side for side in sides(family.stock) if 0 < len(had_by(family, side)) < count]


def ties(family):
    """The listed ties of a family with a past, word by word."""
    return [list(tie) for tie in _ties(family)]


@functools.cache
def _ties(family):
    found = []
    for side in open_sides(family):
        tie = [other for other in sides(family.stock) if had_by(family, other) == had_by(family, side)]
        opposite_tie = [other_side(other) for other in tie]
        first = next(other for other in sides(family.stock) if other in tie or other in opposite_tie)
        if first in tie and tie not in found:
            found.append(tie)
    return sorted(found, key=lambda tie: sides(family.stock).index(tie[0]))


def parting(family, row, other):
    """The listed ties that part two pasts."""
    return [tie for tie in ties(family) if row_has(family.stock, row, tie[0]) != row_has(family.stock, other, tie[0])]


def walls_apart(stock, row, other):
    """The walls of which two rows have different sides."""
    return [
        (name, number)
        for name, number in sides(stock)
        if number > 0 and row_has(stock, row, (name, number)) != row_has(stock, other, (name, number))
    ]


def are_near(family, row, other):
    """Whether two pasts differ exactly in the walls of one tie."""
    apart = walls_apart(family.stock, row, other)
    return apart in [sorted_walls(family.stock, tie) for tie in ties(family)]


def sorted_walls(stock, tie):
    walls = {(name, abs(number)) for name, number in tie}
    return [side for side in sides(stock) if side in walls]


# Families to try.

def some_stock(dice, cells, size):
    return Stock({
        name: Shape([dice.randrange(place + 1) for place in range(dice.randint(1, size))])
        for name in ["a", "b", "c", "d"][:dice.randint(1, cells)]
    })


def tied_families(count, *, seed, cells=3, size=3):
    """Families of bonds that a few rows keep: these have a past, and often ties of several sides."""
    dice = random.Random(seed)
    families = []
    for _ in range(count):
        stock = some_stock(dice, cells, size)
        rows = [dice.choice(every_row(stock)) for _ in range(dice.randint(2, 5))]
        pairs = list(itertools.combinations_with_replacement(sides(stock), 2))
        kept = [bond for bond in pairs if all(keeps(stock, row, bond) for row in rows)]
        families.append(Family(stock, dice.sample(kept, dice.randint(len(kept) * 3 // 4, len(kept)))))
    return families


def some_families(count, *, seed, cells=3, size=3, bonds=9):
    """Families of a few cells and bonds, always the same ones for the same seed."""
    dice = random.Random(seed)
    families = []
    for _ in range(count):
        stock = some_stock(dice, cells, size)
        found = []
        for _ in range(dice.randint(0, bonds)):
            bond = [dice.choice(sides(stock)) for _ in range(dice.choice([1, 2, 2, 2, 2]))]
            found.append(tuple(bond))
        families.append(Family(stock, found))
    return families


def families_with_past(count, *, seed, **more):
    return [family for family in some_families(count, seed=seed, **more) if every_past(family)]


def families_without_past(count, *, seed, **more):
    return [family for family in some_families(count, seed=seed, **more) if not every_past(family)]
