"""The steps of a family (point 17), with numbers in the place of sides: the order of the sides counts them from 0.

A set of places is also written as one number, a mask: bit p of it is set if place p belongs to the set.
"""

from everypast.stocks import sides_around

INSIDE = -1


class Graph:
    """The sides of a stock in their order, the place of each one in it, and the steps from each place.

    A step is written as the pair of the place to which it leads and its source. For each place, `led` has the mask
    of all places to which it leads; `firsts` is the mask of the first sides of all walls.
    """

    def __init__(self, stock, bonds):
        self.listed = tuple(stock.sides())
        self.places = {side: place for place, side in enumerate(self.listed)}
        by_bonds = _steps_by_bonds(self.places, bonds)
        self.ahead = tuple([
            tuple(sorted(set(_steps_inside(stock, self.places, side) + by_bonds[place])))
            for place, side in enumerate(self.listed)
        ])
        self.led = tuple(led_by(self.ahead))
        self.firsts = mask_of(list(range(0, len(self.listed), 2)))


def across(place):
    """Return the place of the opposite side: the two sides of a wall stand at an even place and the next one."""
    return place + 1 if place % 2 == 0 else place - 1


def _steps_inside(stock, places, side):
    """Return the steps to the other sides to which the side leads inside."""
    return [(places[other], INSIDE) for other in sides_around(stock, side)]


def _steps_by_bonds(places, bonds):
    """Return, for each place, the steps whose source is a bond."""
    steps = [[] for _ in places]
    for source, bond in enumerate(bonds):
        first = places[bond[0]]
        last = places[bond[-1]]
        if first != across(last):
            steps[across(first)].append((last, source))
            steps[across(last)].append((first, source))
    return steps


def led_by(ahead):
    """Return, for each place, the mask of the places to which it leads by these steps."""
    masks = [mask_of([place, *[target for target, _ in steps]]) for place, steps in enumerate(ahead)]
    for place in range(len(ahead)):
        masks = _through(masks, place)
    return masks


def led_with(graph, sources):
    """Return, for each place, the mask of the places to which it leads if only the bonds at these indexes are kept."""
    kept = {source: True for source in [INSIDE, *sources]}
    return led_by([[(target, source) for target, source in steps if source in kept] for steps in graph.ahead])


def _through(masks, place):
    """Return the masks, each with all of the mask of this place if the place is in it."""
    bit = 1 << place
    return [mask | masks[place] if mask & bit else mask for mask in masks]


def place_of_ring(led):
    """Return the place of a side that leads to its opposite and is led to by it, or None."""
    for place in range(0, len(led), 2):
        if is_in(across(place), led[place]) and is_in(place, led[across(place)]):
            return place
    return None


def mask_of(places):
    """Return the mask of the places of the list."""
    mask = 0
    for place in places:
        mask = mask | (1 << place)
    return mask


def places_in(mask):
    """Return the places of the mask, in ascending order."""
    return [place for place in range(mask.bit_length()) if is_in(place, mask)]


def is_in(place, mask):
    """Return True if the place is in the mask, otherwise False."""
    return (mask >> place) & 1 == 1


def is_clear(graph, mask):
    """Return True if no two sides of the mask are opposite, otherwise False."""
    return mask & (mask >> 1) & graph.firsts == 0


def opposites(graph, mask):
    """Return the mask of the opposites of the sides of the mask."""
    return ((mask & graph.firsts) << 1) | ((mask >> 1) & graph.firsts)


def spread(graph, places):
    """Return the mask of all places to which some of these places lead."""
    mask = 0
    for place in places:
        mask = mask | graph.led[place]
    return mask


def leads(graph, start, goal):
    """Return True if the side at the first place leads to the side at the second one, otherwise False."""
    return is_in(goal, graph.led[start])


def is_certain(graph, place):
    """Return True if every past has the side at this place: its opposite leads to it."""
    return leads(graph, across(place), place)


def is_open(graph, place):
    """Return True if some past has the side at this place and another one has not, where there is a past."""
    return not is_certain(graph, place) and not is_certain(graph, across(place))


def certain_places(graph):
    """Return the mask of all certain sides, where there is a past."""
    return mask_of([place for place in range(len(graph.listed)) if is_certain(graph, place)])


def open_places(graph):
    """Return the mask of all open sides, where there is a past."""
    return mask_of([place for place in range(len(graph.listed)) if is_open(graph, place)])


def first_steps(graph, start):
    """Return, for each place to which the start leads, the last step of a shortest chain, as (place before, source).

    For the start itself it is None.
    """
    found = {start: None}
    border = [start]
    while border:
        reached_now = []
        for place in list(border):
            for target, source in graph.ahead[place]:
                if target not in found:
                    found[target] = (place, source)
                    reached_now.append(target)
        border = reached_now
    return found


def shortest_chain(graph, start, goal):
    """Return a chain with as few steps as possible from one place to the other, or None if there is none."""
    return chain_along(graph, first_steps(graph, start), goal)


def chain_along(graph, found, goal):
    """Return a shortest chain to the goal from the place whose first steps were found, or None if there is none."""
    if goal not in found:
        return None
    sides = [graph.listed[goal]]
    sources = []
    step = found[goal]
    while step is not None:
        place, source = step
        sides.append(graph.listed[place])
        sources.append(source)
        step = found[place]
    return (sides[::-1], sources[::-1])
