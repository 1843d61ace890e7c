"""Walks along edges that are even or odd, and closed walks with an odd number of odd edges (points 57 and 63).

An edge is a tuple (name, name, odd), and a walk is a pair (names, indexes) of two lists: the names to which it comes,
and the indexes of the edges that it uses.
"""


def tree_from(edges, start):
    """Return, for each name that can be reached, the last step of a way from the start: (name before, index of edge).

    For the start itself it is None. Each name stands behind the name before it.
    """
    found = {start: None}
    border = [start]
    while border:
        reached_now = []
        for name in list(border):
            for index, (first, second, _) in enumerate(edges):
                other = _far_end(name, first, second)
                if other is not None and other not in found:
                    found[other] = (name, index)
                    reached_now.append(other)
        border = reached_now
    return found


def _far_end(name, first, second):
    """Return the other end of an edge with these ends, or None if the name is none of them."""
    if name == first:
        return second
    return first if name == second else None


def oddness(edges, tree):
    """Return, for each name of the tree, True if its way from the start has an odd number of odd edges."""
    odd = {}
    for name, step in tree.items():
        odd[name] = False if step is None else odd[step[0]] != edges[step[1]][2]
    return odd


def odd_walk_along(edges, tree):
    """Return a closed walk from the start of the tree with an odd number of odd edges, or None if there is none."""
    odd = oddness(edges, tree)
    for index, (first, second, is_odd) in enumerate(edges):
        if first in tree and (odd[first] != odd[second]) != is_odd:
            there, along = _way_to(tree, first)
            back, home = _way_to(tree, second)
            return (there + back[::-1], [*along, index, *home[::-1]])
    return None


def _way_to(tree, name):
    """Return the walk along the tree from its start to the name."""
    names = [name]
    indexes = []
    while tree[names[-1]] is not None:
        before, index = tree[names[-1]]
        names.append(before)
        indexes.append(index)
    return (names[::-1], indexes[::-1])
