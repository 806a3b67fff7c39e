"""Names: of calls, of shelves, of kept programs."""

LETTERS = "abcdefghijklmnopqrstuvwxyz"

LONGEST_NAME = 8


def is_name(thing):
    """Whether a thing, of any kind, is a name: one to eight small letters."""
    if not isinstance(thing, str) or not 1 <= len(thing) <= LONGEST_NAME:
        return False
    return all(sign in LETTERS for sign in thing)
