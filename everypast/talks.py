"""Talks: looks that are chosen one after the other, each by what all before it have shown (point 79)."""

from everypast.claims import open_sides
from everypast.listing import check_is_past
from everypast.looks import best_look, outcomes
from everypast.rows import sides_of


def talk(family, truth, looks):
    """Return the rounds of the talk, each a tuple (index, outcome, gain), and the walls that are left open."""
    known = family
    place = best_look(known, looks, _equal_costs(looks))
    check_is_past(family, truth)
    rounds = []
    while place is not None:
        outcome, shown = _shown(family.stock, truth, looks[place])
        gains = dict(outcomes(known, looks[place]))
        rounds.append((place, outcome, gains[outcome]))
        known = known.extended([(side,) for side in shown])
        place = best_look(known, looks, _equal_costs(looks))
    return (rounds, [side for side in open_sides(known) if side[1] > 0])


def _equal_costs(looks):
    """Return the same cost for each look."""
    return [1 for _ in looks]


def _shown(stock, truth, look):
    """Return the outcome that the truth has for the look, and the sides that it shows."""
    cell = look[1]
    shown = [side for side in sides_of(stock, truth) if side[0] == cell]
    if look[0] == "cell":
        return (truth[stock.names.index(cell)], shown)
    side = [side for side in shown if abs(side[1]) == look[2]][0]
    return (side[1], [side])
