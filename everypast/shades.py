"""Sites of shades: strengths of dyes whose sums and differences were seen (point 56)."""

from everypast.finds import check_names
from everypast.rows import every_row
from everypast.shapes import line
from everypast.sites import Site
from everypast.stocks import Stock

KINDS = (
    ("sum", "cell", "cell", "number", "high"),
    ("less", "cell", "cell", "number", "high"),
    ("shade", "cell", "number", "high"),
)


class Shades(Site):
    """A site whose cells are strengths, from 0 to `top`."""

    def __init__(self, cells, top):
        check_names(cells)
        shape = line(top)
        super().__init__(Stock({cell: shape for cell in cells}))
        self.cells = tuple(cells)
        self.top = top

    def _made_anew(self):
        return Shades(self.cells, self.top)

    def _kinds(self):
        return KINDS

    def _allowed(self, find, cells):
        return [row for row in every_row(self.stock.part(cells)) if find[-2] <= _seen(find[0], row) <= find[-1]]


def _seen(word, row):
    """Return what a find of this kind has seen of the row of strengths for its cells."""
    if word == "sum":
        return row[0] + row[1]
    if word == "less":
        return row[0] - row[1]
    return row[0]
