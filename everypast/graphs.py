"""The steps of a family (point 17), with numbers in the place of sides: the order of the sides counts them from 0."""

from everypast.stocks import sides_around

INSIDE = -1


class Graph:
    """The sides of a stock in their order, the place of each one in it, and the steps from each place.

    A step is written as the pair of the place to which it leads and its source.
    """

    def __init__(self, stock, bonds):
        self.listed = tuple(stock.sides())
        self.places = {side: place for place, side in enumerate(self.listed)}
        by_bonds = _steps_by_bonds(self.places, bonds)
        self.ahead = tuple([
            tuple(sorted(set(_steps_inside(stock, self.places, side) + by_bonds[place])))
            for place, side in enumerate(self.listed)
        ])


def across(place):
    """Return the place of the opposite side: the two sides of a wall stand at an even place and the next one."""
    return place + 1 if place % 2 == 0 else place - 1


def _steps_inside(stock, places, side):
    """Return the steps to the other sides to which the side leads inside."""
    return [(places[other], INSIDE) for other in sides_around(stock, side)]


def _steps_by_bonds(places, bonds):
    """Return, for each place, the steps whose source is a bond."""
    steps = [[] for _ in places]
    for source, bond in enumerate(bonds):
        first = places[bond[0]]
        last = places[bond[-1]]
        if first != across(last):
            steps[across(first)].append((last, source))
            steps[across(last)].append((first, source))
    return steps


def first_steps(graph, start):
    """Return, for each place to which the start leads, the last step of a shortest chain, as (place before, source).

    For the start itself it is None.
    """
    found = {start: None}
    border = [start]
    while border:
        reached_now = []
        for place in list(border):
            for target, source in graph.ahead[place]:
                if target not in found:
                    found[target] = (place, source)
                    reached_now.append(target)
        border = reached_now
    return found


def leads(graph, start, goal):
    """Return True if the side at the first place leads to the side at the second one, otherwise False."""
    return goal in first_steps(graph, start)


def shortest_chain(graph, start, goal):
    """Return a chain with as few steps as possible from one place to the other, or None if there is none."""
    found = first_steps(graph, start)
    if goal not in found:
        return None
    sides = [graph.listed[goal]]
    sources = []
    step = found[goal]
    while step is not None:
        place, source = step
        sides.append(graph.listed[place])
        sources.append(source)
        step = found[place]
    return (sides[::-1], sources[::-1])
