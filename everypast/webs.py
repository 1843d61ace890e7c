"""Webs: strengths that hang together by exact finds, and their accounts (points 57 and 58)."""

from everypast.walks import odd_walk_along, tree_from


def web_of(shades, cell):
    """Return the cells of the web of the cell, in the order of the site."""
    tree = _tree_of(shades, cell)
    return [name for name in shades.cells if name in tree]


def webs(shades):
    """Return all webs, in the order of their first cells."""
    found = [web_of(shades, cell) for cell in shades.cells]
    return [web for cell, web in zip(shades.cells, found) if web[0] == cell]


def odd_walk(shades, cell):
    """Return a closed walk with an odd number of "sum" finds in the web of the cell, or None if the web is not odd."""
    walk = odd_walk_along(_edges(shades), _tree_of(shades, cell))
    if walk is None:
        return None
    places = _exact_places(shades)
    names, indexes = walk
    return (names, [places[index] for index in indexes])


def account(shades, cell):
    """Return the account of the web of the cell."""
    cells = web_of(shades, cell)
    forms = _forms(shades, cells[0])
    equations = _equations(shades, forms)
    if any(slope == 0 and rest != 0 for slope, rest in equations):
        return ("none", cells)
    solved = [(slope, rest) for slope, rest in equations if slope != 0]
    if solved:
        return _account_of_point(shades.top, cells, forms, solved)
    return _account_of_line(shades.top, cells, forms)


def _exact_places(shades):
    """Return the indexes of the exact finds, in ascending order."""
    return [place for place, find in enumerate(shades) if find[0] != "shade" and find[3] == find[4]]


def _edges(shades):
    """Return an edge for each exact find, in their order; the "sum" finds are odd."""
    finds = list(shades)
    return [(finds[place][1], finds[place][2], finds[place][0] == "sum") for place in _exact_places(shades)]


def _tree_of(shades, cell):
    """Return the tree of the exact finds that lead from the cell to the cells of its web."""
    shades.stock.shape_of(cell)
    return tree_from(_edges(shades), cell)


def _forms(shades, start):
    """Return (base, slope) for each cell of the web: its position is base + slope * t if t is that of the start."""
    finds = list(shades)
    places = _exact_places(shades)
    forms = {}
    for name, step in _tree_of(shades, start).items():
        if step is None:
            forms[name] = (0, 1)
        else:
            before, index = step
            forms[name] = _form_after(finds[places[index]], before, forms[before])
    return forms


def _form_after(find, before, form):
    """Return the form of the other cell of an exact find, where one of its cells has this form."""
    word, first, _, number, _ = find
    base, slope = form
    if word == "sum":
        return (number - base, -slope)
    if before == first:
        return (base - number, slope)
    return (base + number, slope)


def _equations(shades, forms):
    """Return a pair (slope, rest) for each exact find of the web: it holds for t exactly if slope * t equals rest."""
    finds = list(shades)
    equations = []
    for place in _exact_places(shades):
        word, first, second, number, _ = finds[place]
        if first in forms:
            sign = 1 if word == "sum" else -1
            base, slope = forms[first]
            other_base, other_slope = forms[second]
            equations.append((slope + sign * other_slope, number - base - sign * other_base))
    return equations


def _account_of_line(top, cells, forms):
    """Return the account of a web that is not odd, where all exact finds hold for every t."""
    # A slope of 1 bounds t by the base itself, a slope of -1 by the other end of the line.
    low = max([-base if slope > 0 else base - top for base, slope in forms.values()])
    high = min([top - base if slope > 0 else base for base, slope in forms.values()])
    if low > high:
        return ("none", cells)
    return ("line", cells, [forms[cell][0] for cell in cells], [forms[cell][1] for cell in cells], low, high)


def _account_of_point(top, cells, forms, equations):
    """Return the account of an odd web, where all exact finds hold exactly if these equations do; no slope is 0."""
    first_slope, first_rest = equations[0]
    found = first_rest // first_slope
    # This also finds out if the solution of the first equation is not whole.
    if any(slope * found != rest for slope, rest in equations):
        return ("none", cells)
    positions = [forms[cell][0] + forms[cell][1] * found for cell in cells]
    if all(0 <= position <= top for position in positions):
        return ("point", cells, positions)
    return ("none", cells)
