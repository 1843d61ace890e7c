"""Names (point 3)."""

LETTERS = "abcdefghijklmnopqrstuvwxyz"
LETTERS_AND_DIGITS = "abcdefghijklmnopqrstuvwxyz0123456789"
LONGEST = 8


def valid_name(text):
    """Return True if the string is a name, otherwise False."""
    if not 1 <= len(text) <= LONGEST:
        return False
    return text[0] in LETTERS and all(sign in LETTERS_AND_DIGITS for sign in text)
