"""What a whole number and a name are, asked of anything."""

LETTERS = "abcdefghijklmnopqrstuvwxyz"
LONGEST_NAME = 8


def is_whole(thing):
    """Whether this is a whole number: truths are ints to Python, but none here."""
    return isinstance(thing, int) and not isinstance(thing, bool)


def is_name(thing):
    """Whether this is a text of one to eight small letters."""
    if not isinstance(thing, str) or not 1 <= len(thing) <= LONGEST_NAME:
        return False
    return all([letter in LETTERS for letter in thing])
