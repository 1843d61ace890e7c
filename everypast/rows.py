"""Rows of a stock: one position for each cell (points 12 to 14)."""

from everypast.errors import BadRow, EvenCount
from everypast.middles import odd_middle
from everypast.stocks import check_stock_side


def is_row(stock, row):
    """Return True if the list of integers is a row of the stock, otherwise False."""
    if len(row) != len(stock):
        return False
    return all(0 <= position <= stock.shape_of(name).size for name, position in zip(stock.names, row))


def check_row(stock, row):
    """Raise BadRow if the list is not a row of the stock."""
    if not is_row(stock, row):
        raise BadRow(row)


def every_row(stock):
    """Return all rows of the stock, in ascending order."""
    rows = [[]]
    for name in stock.names:
        rows = [[*row, position] for row in rows for position in range(stock.shape_of(name).size + 1)]
    return rows


def has_side(stock, row, side):
    """Return True if the row has the side, otherwise False."""
    check_row(stock, row)
    check_stock_side(stock, side)
    cell, number = side
    return stock.shape_of(cell).has(row[stock.names.index(cell)], number)


def sides_of(stock, row):
    """Return the sides that the row has, one for each wall, in their order."""
    check_row(stock, row)
    return [
        (name, number)
        for name, position in zip(stock.names, row)
        for number in stock.shape_of(name).sides_at(position)
    ]


def middle_row(stock, rows):
    """Return the middle of an odd number of rows."""
    for row in rows:
        check_row(stock, row)
    if len(rows) % 2 == 0:
        raise EvenCount(len(rows))
    return [odd_middle(stock.shape_of(name), [row[at] for row in rows]) for at, name in enumerate(stock.names)]


def walls_parting(stock, row, other):
    """Return the walls of which the two rows have different sides, in their order."""
    check_row(stock, row)
    check_row(stock, other)
    return [
        (name, wall)
        for name, position, place in zip(stock.names, row, other)
        for wall in stock.shape_of(name).parting(position, place)
    ]


def lies_between(stock, row, start, goal):
    """Return True if the row lies between the other two rows, otherwise False."""
    check_row(stock, row)
    check_row(stock, start)
    check_row(stock, goal)
    for at, name in enumerate(stock.names):
        if row[at] not in stock.shape_of(name).way(start[at], goal[at]):
            return False
    return True
