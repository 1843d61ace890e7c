"""Best sets of tunnels, and prices that show that no set is better (points 65 and 66)."""

from everypast.errors import BadCount, BadWeight
from everypast.tunnels import fault_in


def best_set(tunnels, weights):
    """Return the weight, the length and the tunnels of the greatest best set."""
    check_weights(tunnels, weights)
    return best_addition(tunnels, weights, [])


def check_weights(tunnels, weights):
    """Raise BadWeight if the list is not a list of weights of the tunnels."""
    place = fault_in(weights, least=0, count=tunnels.shape.size)
    if place is not None:
        raise BadWeight(place)


def best_addition(tunnels, weights, dug):
    """Return the weight, the length and the tunnels of the greatest best addition to a closed set of dug tunnels."""
    walls = [wall for wall in range(1, tunnels.shape.size + 1) if wall not in dug]
    gain = 1
    # Some addition has a greater ratio than this one exactly if one has a gain at this ratio: then that one is tried.
    while gain > 0:
        weight = tunnels.total(weights, walls)
        length = tunnels.total(tunnels.lengths, walls)
        gains = _gains(tunnels, weights, weight, length)
        walls = _worthwhile(tunnels, gains, dug)
        gain = sum([gains[wall] for wall in walls if _is_border(tunnels, dug, wall)])
    return (tunnels.total(weights, walls), tunnels.total(tunnels.lengths, walls), walls)


def _gains(tunnels, weights, a, b):
    """Return, for each tunnel, the greatest gain of a set of it and of tunnels behind it that can be dug after it.

    The gain of a set is b times its weight minus a times its length.
    """
    gains = {}
    # The tunnels behind a tunnel have greater numbers.
    for wall in range(tunnels.shape.size, 0, -1):
        behind = [max(0, gains[other]) for other in tunnels.branching(wall)]
        gains[wall] = b * weights[wall - 1] - a * tunnels.lengths[wall - 1] + sum(behind)
    return gains


def _worthwhile(tunnels, gains, dug):
    """Return the greatest addition with the greatest gain, in ascending order."""
    walls = []
    for wall in range(1, tunnels.shape.size + 1):
        reachable = _is_border(tunnels, dug, wall) or tunnels.parent(wall) in walls
        if wall not in dug and reachable and gains[wall] >= 0:
            walls.append(wall)
    return walls


def _is_border(tunnels, dug, wall):
    """Return True if the tunnel is not dug and can be dug at once, otherwise False."""
    return wall not in dug and (tunnels.parent(wall) == 0 or tunnels.parent(wall) in dug)


def prices(tunnels, weights, a, b):
    """Return a list of prices for a and b, or None if there are none."""
    _check_terms(tunnels, weights, a, b)
    gains = _gains(tunnels, weights, a, b)
    if any(gains[wall] > 0 for wall in tunnels.branching(0)):
        return None
    # Each price is as low as the prices behind it allow, and the first tunnels have no gain that needs a price.
    return [max(0, gains[wall]) for wall in range(1, tunnels.shape.size + 1)]


def _check_terms(tunnels, weights, a, b):
    """Raise BadWeight, or BadCount for a negative `a` or for a `b` less than 1."""
    check_weights(tunnels, weights)
    if a < 0:
        raise BadCount(a)
    if b < 1:
        raise BadCount(b)


def are_prices(tunnels, weights, a, b, offered):
    """Return True if the list consists of prices for a and b, otherwise False."""
    _check_terms(tunnels, weights, a, b)
    if fault_in(offered, least=0, count=tunnels.shape.size) is not None:
        return False
    for wall in range(1, tunnels.shape.size + 1):
        behind = sum([offered[other - 1] for other in tunnels.branching(wall)])
        if offered[wall - 1] < b * weights[wall - 1] - a * tunnels.lengths[wall - 1] + behind:
            return False
        if tunnels.parent(wall) == 0 and offered[wall - 1] != 0:
            return False
    return True
