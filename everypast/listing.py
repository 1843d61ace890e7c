"""The pasts of a family in ascending order (point 24)."""

from everypast.errors import BadPast
from everypast.graphs import is_clear
from everypast.possible import position_masks
from everypast.solving import check_past, has_past


def first_past(family):
    """Return the first past."""
    check_past(family)
    return _first_with(family.graph, _masks_of_cells(family), [])


def next_past(family, row):
    """Return the next past after the past `row`, or None if there is none."""
    check_past(family)
    check_is_past(family, row)
    return _first_after(family.graph, _masks_of_cells(family), row)


def check_is_past(family, row):
    """Raise BadPast if the list is not a past of the family."""
    if not family.is_past(row):
        raise BadPast(row)


def pasts(family, *, limit=20):
    """Yield the first pasts in ascending order, at most as many as the limit says."""
    if not has_past(family):
        return
    masks = _masks_of_cells(family)
    row = _first_with(family.graph, masks, [])
    for _ in range(limit):
        if row is None:
            return
        yield list(row)
        row = _first_after(family.graph, masks, row)


def count_pasts(family, *, limit=50):
    """Return the number of the pasts, but at most the limit."""
    return len(list(pasts(family, limit=limit)))


def _masks_of_cells(family):
    """Return, for each cell, the masks of its positions."""
    return [position_masks(family, cell) for cell in family.stock.names]


def _first_with(graph, masks, beginning):
    """Return the first past that begins with these positions, which are the beginning of a past."""
    row = list(beginning)
    mask = _mask_of_beginning(masks, row)
    for choices in masks[len(beginning):]:
        position = _least_fitting(graph, mask, choices, 0)
        row.append(position)
        mask = mask | choices[position]
    return row


def _first_after(graph, masks, row):
    """Return the first past that comes after the row, or None if there is none."""
    for at in range(len(row) - 1, -1, -1):
        mask = _mask_of_beginning(masks, row[:at])
        position = _least_fitting(graph, mask, masks[at], row[at] + 1)
        if position is not None:
            return _first_with(graph, masks, [*row[:at], position])
    return None


def _mask_of_beginning(masks, beginning):
    """Return the mask of all sides to which the sides of these first positions lead."""
    mask = 0
    for choices, position in zip(masks, beginning):
        mask = mask | choices[position]
    return mask


def _least_fitting(graph, mask, choices, least):
    """Return the least position, from `least` on, that is possible together with the mask, or None."""
    for position in range(least, len(choices)):
        if is_clear(graph, mask | choices[position]):
            return position
    return None
