"""Doing the deeds of a journal again (point 82)."""

from everypast.desk import Desk
from everypast.errors import BadEntry, FindsError


def replay(house, journal):
    """Return a desk for the house at which the deeds of the journal are done."""
    desk = Desk(house)
    for place, entry in enumerate(journal):
        if not _is_entry(entry):
            raise BadEntry(place)
        try:
            _do(desk, entry)
        except FindsError:
            raise BadEntry(place) from None
    return desk


def _is_entry(entry):
    """Return True if the tuple is one of the kinds of entries with items of the right kinds, otherwise False."""
    if len(entry) != 3 or not isinstance(entry[1], str):
        return False
    if entry[0] == "take":
        return isinstance(entry[2], tuple)
    return entry[0] in ("drop", "look") and isinstance(entry[2], int)


def _do(desk, entry):
    """Do the deed of the entry."""
    word, name, item = entry
    if word == "take":
        desk.take(name, item)
    elif word == "drop":
        desk.drop(name, item)
    else:
        desk.look(name, item)
