"""The written forms of entries and journals (points 80 and 81)."""

from everypast.errors import BadLine
from everypast.names import valid_name

DIGITS = "0123456789"
MOST_DIGITS = 9
DEEPEST = 6


def write_entry(entry):
    """Return the written form of the entry."""
    return " ".join([_written(item) for item in entry])


def _written(item):
    """Return the written form of an item."""
    if isinstance(item, tuple):
        return "(" + write_entry(item) + ")"
    return str(item)


def read_entry(text):
    """Return the entry whose written form the string is."""
    entry = _entry_of(text)
    if entry is None:
        raise BadLine(1)
    return entry


def _entry_of(text):
    """Return the entry whose written form the string is, or None."""
    entry = _told_by(text.replace("(", " ( ").replace(")", " ) ").split())
    # Any other spaces, a leading zero or "-0" would be written in another way.
    if entry is None or len(entry) == 0 or write_entry(entry) != text:
        return None
    return entry


def _told_by(words):
    """Return the tuple that the words and brackets tell, or None."""
    # The items read so far: of the entry, then of each bracket that is still open.
    levels = [[]]
    for word in words:
        if word == "(":
            levels.append([])
        elif word == ")" and len(levels) > 1:
            inner = tuple(levels.pop())
            levels[-1].append(inner)
        else:
            item = _word_or_integer(word)
            if item is None:
                return None
            levels[-1].append(item)
        if len(levels) - 1 > DEEPEST:
            return None
    return tuple(levels[0]) if len(levels) == 1 else None


def _word_or_integer(word):
    """Return the word or the integer that is written so, or None."""
    if valid_name(word):
        return word
    digits = word[1:] if word[0] == "-" else word
    if 1 <= len(digits) <= MOST_DIGITS and all(sign in DIGITS for sign in digits):
        return int(word)
    return None


def write_journal(entries):
    """Return the written form of the list of entries."""
    return "\n".join([write_entry(entry) for entry in entries])


def read_journal(text):
    """Return the list of entries whose written form the string is."""
    if text == "":
        return []
    entries = []
    for number, line in enumerate(text.split("\n"), start=1):
        entry = _entry_of(line)
        if entry is None:
            raise BadLine(number)
        entries.append(entry)
    return entries
