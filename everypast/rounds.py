"""Rounds: clerks who write signs of the shape that they read (points 52 and 53)."""

from everypast.clerks import identity
from everypast.errors import NotARound
from everypast.shapes import check_position, equal_shapes


def counts(clerk):
    """Return the numbers of walls that are kept if the round is done 0, 1, .. times, until it has settled."""
    return [len(walls) for walls in _kept_until_settled(clerk)]


def settling(clerk):
    """Return the settling of the round."""
    return len(_kept_until_settled(clerk)) - 1


def kept_for_ever(clerk):
    """Return the walls that are kept however often the round is done, in ascending order."""
    return _kept_until_settled(clerk)[-1]


def _check_round(clerk):
    """Raise NotARound if the two shapes of the clerk are not equal."""
    if not equal_shapes(clerk.shape, clerk.other):
        raise NotARound()


def _kept_until_settled(clerk):
    """Return the lists of the walls that are kept if the round is done 0, 1, .. times, until it has settled."""
    _check_round(clerk)
    done = clerk
    kept = [identity(clerk.shape).walls_kept()]
    # A wall that is lost stays lost: as soon as no wall is lost by doing the round once more, none is any more.
    while len(done.walls_kept()) < len(kept[-1]):
        kept.append(done.walls_kept())
        done = done * clerk
    return kept


def orbit(clerk, sign):
    """Return the signs that come once, and those that then come again and again, when the round is repeated."""
    _check_round(clerk)
    check_position(clerk.shape, sign)
    seen = []
    while sign not in seen:
        seen.append(sign)
        sign = clerk(sign)
    start = seen.index(sign)
    return (seen[:start], seen[start:])


def home_signs(clerk):
    """Return the signs that are their own images, in ascending order."""
    _check_round(clerk)
    return [sign for sign, image in enumerate(clerk.images) if image == sign]


def swaps(clerk):
    """Return the pairs of different signs of which each one is the image of the other, in ascending order."""
    _check_round(clerk)
    return [(sign, image) for sign, image in enumerate(clerk.images) if sign < image and clerk.images[image] == sign]
