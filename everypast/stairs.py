"""Stairs: the tunnels in blocks, the best ones first (point 67)."""

from math import gcd

from everypast.bundles import best_addition, check_weights
from everypast.errors import BadCount


def stairs(tunnels, weights):
    """Return the blocks of the stairs, each in ascending order."""
    return [walls for _, _, walls in _blocks(tunnels, weights)]


def _blocks(tunnels, weights):
    """Return the weight, the length and the tunnels of each block."""
    check_weights(tunnels, weights)
    blocks = []
    dug = []
    while len(dug) < tunnels.shape.size:
        block = best_addition(tunnels, weights, dug)
        blocks.append(block)
        dug = dug + block[2]
    return blocks


def corners(tunnels, weights):
    """Return the corners of the stairs, pairs of a length and a weight, in their order."""
    found = [(0, 0)]
    for weight, length, _ in _blocks(tunnels, weights):
        found.append((found[-1][0] + length, found[-1][1] + weight))
    return found


def height(tunnels, weights, length):
    """Return the height of the stairs at this length, a numerator and a denominator in lowest terms."""
    found = corners(tunnels, weights)
    if not 0 <= length <= found[-1][0]:
        raise BadCount(length)
    # At a corner, both straight lines that end there have the same height.
    place = max([at for at, corner in enumerate(found[:-1]) if corner[0] <= length])
    start, low = found[place]
    end, high = found[place + 1]
    numerator = low * (end - start) + (length - start) * (high - low)
    shared = gcd(numerator, end - start)
    return (numerator // shared, (end - start) // shared)
