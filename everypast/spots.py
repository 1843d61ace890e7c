"""Spots: positions of tunnels that show cells, and the least digging that settles sides (point 70)."""

from everypast.errors import BadName
from everypast.names import valid_name
from everypast.shapes import check_position
from everypast.solving import check_past, places_of
from everypast.ties import tie_of


class Spots:
    """Tunnels in which some positions show a cell."""

    def __init__(self, tunnels, shown):
        for position in shown:
            check_position(tunnels.shape, position)
            if not valid_name(shown[position]):
                raise BadName(shown[position])
        self.tunnels = tunnels
        self._shown = dict(shown)
        self._positions = sorted(list(shown))

    def __len__(self):
        return len(self._positions)

    def __iter__(self):
        return iter(self._positions)

    def shown_at(self, position):
        """Return the name of the cell that the position shows, or None."""
        check_position(self.tunnels.shape, position)
        return self._shown.get(position, None)


def serving(family, spots, side):
    """Return the positions that show a cell with a wall of the tie of the open side, in ascending order."""
    cells = [cell for cell, _ in tie_of(family, side)]
    return [position for position in spots if spots.shown_at(position) in cells]


def nearest_spot(family, spots, side):
    """Return the least length that opens a position of `serving`, and the least such position, or None."""
    found = [(spots.tunnels.cost([position]), position) for position in serving(family, spots, side)]
    return min(found) if found else None


def least_digging(family, spots, sides):
    """Return the least length that opens positions which settle all the sides, and such a position for each side."""
    places_of(family, sides)
    check_past(family)
    choices = {(): []}
    for served in [serving(family, spots, side) for side in sides]:
        choices = _with_one_more(spots.tunnels, choices, served)
    if not choices:
        return None
    found = [(spots.tunnels.total(spots.tunnels.lengths, walls), positions) for walls, positions in choices.items()]
    return min(found)


def _with_one_more(tunnels, choices, served):
    """Return the choices of positions, each one with each of the positions that serve the next side.

    A choice stands under the tunnels that it needs: of several choices that need the same ones, one is enough.
    """
    longer = {}
    for positions in list(choices.values()):
        for position in served:
            chosen = [*positions, position]
            longer[tuple(tunnels.opened(chosen))] = chosen
    return longer
