"""The orders of deeds, and hidden finds (points 48 and 49)."""

from everypast.claims import open_sides
from everypast.errors import BadIndex, BadSign
from everypast.layers import Layers
from everypast.possible import possible_rows
from everypast.solving import check_past

ORDERS = {
    (-1,): "before",
    (0,): "level",
    (1,): "after",
    (-1, 0): "not after",
    (0, 1): "not before",
    (-1, 1): "unlike",
    (-1, 0, 1): "open",
}


def signs(layers, first, second):
    """Return the signs of the two deeds that occur in the pasts, in ascending order."""
    for deed in (first, second):
        layers.stock.shape_of(deed)
    family = layers.family()
    if first == second:
        check_past(family)
        return [0]
    return sorted({_sign(row[0], row[1]) for row in possible_rows(family, [first, second])})


def _sign(layer, other):
    """Return -1, 0 or 1: how the first layer compares with the other one."""
    if layer == other:
        return 0
    return -1 if layer < other else 1


def order(layers, first, second):
    """Return the word for the signs of the two deeds that occur in the pasts."""
    return ORDERS[tuple(signs(layers, first, second))]


def hidden_marks(layers):
    """Return the indexes of the hidden finds, in ascending order."""
    return [place for place, find in enumerate(layers) if find[0] == "hidden"]


def with_mark(layers, place, sign):
    """Return a new site of layers in which the hidden find at this index shows the sign."""
    _check_hidden(layers, place)
    if sign not in (-1, 0, 1):
        raise BadSign(sign)
    finds = list(layers)
    finds[place] = _shown(finds[place], sign)
    other = Layers(layers.deeds, layers.last)
    other.take_all(finds)
    return other


def _check_hidden(layers, place):
    """Raise BadIndex if there is no hidden find at this index."""
    if place not in hidden_marks(layers):
        raise BadIndex(place)


def _shown(find, sign):
    """Return the find by which a hidden find that shows this sign is replaced."""
    _, first, second = find
    if sign == 0:
        return ("level", first, second)
    if sign < 0:
        return ("after", second, first, 1)
    return ("after", first, second, 1)


def mark_yields(layers, place):
    """Return the pairs of the signs that occur for the hidden find at this index with their mark yields."""
    _check_hidden(layers, place)
    _, first, second = list(layers)[place]
    before = len(open_sides(layers.family()))
    yields = []
    for sign in signs(layers, first, second):
        after = len(open_sides(with_mark(layers, place, sign).family()))
        # No side becomes open, and each wall has two sides.
        yields.append((sign, (before - after) // 2))
    return yields
