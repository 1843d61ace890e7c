"""All errors that the program raises."""


class FindsError(ValueError):
    """The base class of all errors of the program."""


def _copied_path(path):
    """Return a chain, a tuple of two lists, with new lists."""
    sides, sources = path
    return (list(sides), list(sources))


class BadName(FindsError):
    """A name that is invalid, or that occurs where it must not occur again."""

    def __init__(self, name):
        super().__init__(f"not allowed as a name here: {name!r}")
        self.name = name


class UnknownName(FindsError):
    """A name that nothing here has."""

    def __init__(self, name):
        super().__init__(f"unknown name: {name!r}")
        self.name = name


class SameSite(FindsError):
    """A site was to be folded into itself."""

    def __init__(self, name):
        super().__init__(f"the same site twice: {name!r}")
        self.name = name


class NotALine(FindsError):
    """A cell that must have a line has another shape."""

    def __init__(self, name):
        super().__init__(f"this cell has no line: {name!r}")
        self.name = name


class UnlikeShapes(FindsError):
    """Two shapes that must be equal are not; the name is empty for clerks without names."""

    def __init__(self, name):
        super().__init__(f"unequal shapes: {name!r}")
        self.name = name


class UnlikeStocks(FindsError):
    """Two stocks that must have the same cells in the same order have not."""


class NotARound(FindsError):
    """The two shapes of a clerk that should be a round are not equal."""


class NothingToUndo(FindsError):
    """No deed is left to be undone."""


class NothingToRedo(FindsError):
    """No deed is left to be done again."""


class BadShape(FindsError):
    """A list of parents is invalid at this index."""

    def __init__(self, place):
        super().__init__(f"not a shape, at index {place}")
        self.place = place


class BadBond(FindsError):
    """The bond at this index is invalid."""

    def __init__(self, place):
        super().__init__(f"not a bond, at index {place}")
        self.place = place


class BadImages(FindsError):
    """A list of images is invalid at this index."""

    def __init__(self, place):
        super().__init__(f"not a list of images, at index {place}")
        self.place = place


class BadFind(FindsError):
    """A find is invalid at this index."""

    def __init__(self, place):
        super().__init__(f"not a find, at index {place}")
        self.place = place


class BadIndex(FindsError):
    """Nothing stands at the index that was passed."""

    def __init__(self, place):
        super().__init__(f"nothing stands at index {place}")
        self.place = place


class BadLeg(FindsError):
    """The clerk at this index does not continue the route."""

    def __init__(self, place):
        super().__init__(f"this clerk does not continue the route, at index {place}")
        self.place = place


class BadSteps(FindsError):
    """The steps of a vat are invalid at this index."""

    def __init__(self, place):
        super().__init__(f"not the steps of a vat, at index {place}")
        self.place = place


class BadLength(FindsError):
    """A list of lengths is invalid at this index."""

    def __init__(self, place):
        super().__init__(f"not a list of lengths, at index {place}")
        self.place = place


class BadWeight(FindsError):
    """A list of weights is invalid at this index."""

    def __init__(self, place):
        super().__init__(f"not a list of weights, at index {place}")
        self.place = place


class BadCost(FindsError):
    """A list of costs is invalid at this index."""

    def __init__(self, place):
        super().__init__(f"not a list of costs, at index {place}")
        self.place = place


class BadLook(FindsError):
    """The look at this index is invalid."""

    def __init__(self, place):
        super().__init__(f"not a look, at index {place}")
        self.place = place


class BadEntry(FindsError):
    """The entry at this index cannot be replayed."""

    def __init__(self, place):
        super().__init__(f"not an entry that can be done, at index {place}")
        self.place = place


class EvenCount(FindsError):
    """An even number of things has no middle."""

    def __init__(self, number):
        super().__init__(f"an even number of them has no middle: {number}")
        self.number = number


class BadCount(FindsError):
    """A number is not allowed here."""

    def __init__(self, number):
        super().__init__(f"not allowed as a number here: {number}")
        self.number = number


class BadSign(FindsError):
    """A sign is not -1, 0 or 1."""

    def __init__(self, number):
        super().__init__(f"not a sign: {number}")
        self.number = number


class BadLine(FindsError):
    """A line, counted from 1, is not a written entry."""

    def __init__(self, line):
        super().__init__(f"not a written entry, in line {line}")
        self.line = line


class BadPosition(FindsError):
    """A number is not a position of the shape."""

    def __init__(self, position):
        super().__init__(f"not a position: {position}")
        self.position = position


class BadSide(FindsError):
    """A value is not a side, or not a wall where a wall is needed."""

    def __init__(self, side):
        super().__init__(f"not a side here: {side!r}")
        self.side = side


class NotOpen(FindsError):
    """A side that must be open is certain or impossible."""

    def __init__(self, side):
        super().__init__(f"not an open side: {side!r}")
        self.side = side


class NotCertain(FindsError):
    """A side that must be certain is not."""

    def __init__(self, side):
        super().__init__(f"not a certain side: {side!r}")
        self.side = side


class BadRow(FindsError):
    """A list is not a row."""

    def __init__(self, row):
        super().__init__(f"not a row here: {list(row)!r}")
        self.row = list(row)


class BadPast(FindsError):
    """A list is not a past."""

    def __init__(self, row):
        super().__init__(f"not a past: {list(row)!r}")
        self.row = list(row)


class NotClosed(FindsError):
    """The middle of three rows is missing."""

    def __init__(self, rows):
        super().__init__("the middle of three of the rows is missing")
        self.rows = [list(row) for row in rows]


class NotKept(FindsError):
    """A map does not keep the middle of three positions."""

    def __init__(self, positions):
        super().__init__(f"the map does not keep the middle of {list(positions)!r}")
        self.positions = list(positions)


class NoPast(FindsError):
    """A family has no past; its ring shows why."""

    def __init__(self, there, back):
        super().__init__("there is no past")
        self.there = _copied_path(there)
        self.back = _copied_path(back)


class NotTogether(FindsError):
    """No past has all the sides; a chain from the first one to the opposite of the second one shows why."""

    def __init__(self, first, second, chain):
        super().__init__(f"no past has both: {first!r}, {second!r}")
        self.first = first
        self.second = second
        self.chain = _copied_path(chain)


class NoReading(FindsError):
    """A place has no reading; the finds at two indexes show why."""

    def __init__(self, first, second):
        super().__init__(f"no common sign for the finds {first} and {second}")
        self.first = first
        self.second = second
