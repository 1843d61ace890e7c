"""Possible positions and rows of positions, and claims over one or two cells (point 23)."""

from everypast.graphs import is_clear, spread
from everypast.rows import check_row, every_row
from everypast.solving import check_past, clash, past_with


def possible_positions(family, cell):
    """Return the possible positions of the cell, in ascending order."""
    masks = position_masks(family, cell)
    check_past(family)
    return [position for position, mask in enumerate(masks) if is_clear(family.graph, mask)]


def position_masks(family, cell):
    """Return, for each position of the cell, the mask of all sides to which its sides lead."""
    return [
        spread(family.graph, _places_at(family, cell, position))
        for position in range(family.stock.shape_of(cell).size + 1)
    ]


def _places_at(family, cell, position):
    """Return the places of the sides that the position of the cell has."""
    return [family.graph.places[cell, number] for number in family.stock.shape_of(cell).sides_at(position)]


def possible_rows(family, cells):
    """Return the possible rows of positions for the cells, in ascending order."""
    part = family.stock.part(cells)
    check_past(family)
    beginnings = [([], 0)]
    for cell in part.names:
        beginnings = _longer(family.graph, beginnings, position_masks(family, cell))
    return [row for row, _ in beginnings]


def _longer(graph, beginnings, masks):
    """Return the rows with their masks, each one with each further position that is possible beside it."""
    return [
        ([*row, position], mask | added)
        for row, mask in beginnings
        for position, added in enumerate(masks)
        if is_clear(graph, mask | added)
    ]


def decide(family, cells, rows):
    """Return a past whose positions for the cells are none of the rows, or for each other row why no past has it."""
    part = family.stock.part(cells)
    for row in rows:
        check_row(part, row)
    check_past(family)
    clashes = []
    for row in _rows_left(part, rows):
        places = _places_of_row(family, part.names, row)
        found = clash(family.graph, places)
        if found is None:
            return ("fails", past_with(family, places))
        first, second, path = found
        clashes.append((row, first, second, path))
    return ("holds", clashes)


def _rows_left(stock, rows):
    """Return the rows of the stock that are not among these rows, in ascending order."""
    listed = {tuple(row): True for row in rows}
    return [row for row in every_row(stock) if tuple(row) not in listed]


def _places_of_row(family, cells, row):
    """Return the places of the sides that the row of positions for the cells has."""
    return [place for cell, position in zip(cells, row) for place in _places_at(family, cell, position)]
