"""Worths: whole numbers of a width, what is done with two of them, and what is asked of them."""

from boundgate.errors import NoWord

WIDE = 16

DEEDS = ("plus", "minus", "times", "and", "or", "either", "left", "right")

ASKS = (
    "same", "under", "upto", "below", "least", "bits",
    "unlike", "over", "from", "above", "notbelow", "nobits",
)

CONTRARIES = (
    ("same", "unlike"),
    ("under", "from"),
    ("upto", "over"),
    ("below", "notbelow"),
    ("least", "above"),
    ("bits", "nobits"),
)


def greatest(wide):
    """The greatest worth of a width: all of its bits."""
    return (1 << wide) - 1


def is_whole(thing):
    """Whether a thing, of any kind, is a whole number."""
    return isinstance(thing, int) and not isinstance(thing, bool)


def is_worth(thing, *, wide=WIDE):
    """Whether a thing, of any kind, is a worth of the width."""
    return is_whole(thing) and 0 <= thing <= greatest(wide)


def is_among(word, words):
    """Whether word, a thing of any kind, is one of these texts."""
    # A thing of another kind may call itself equal to a text, so the kind is looked at first.
    return isinstance(word, str) and word in words


def signed(worth, *, wide=WIDE):
    """What a worth is with sign."""
    if worth >> (wide - 1) == 0:
        return worth
    return worth - (1 << wide)


def moved_left(worth, places, wide):
    """The bits of a worth moved up; those that leave the width are lost."""
    # Moved by a great number of places a number would be as long as that number is great.
    if places >= wide:
        return 0
    return (worth << places) & greatest(wide)


def moved_right(worth, places, wide):
    """The bits of a worth moved down."""
    if places >= wide:
        return 0
    return worth >> places


def done(word, one, other, *, wide=WIDE):
    """What comes of two worths by a deed, modulo the width."""
    if not is_among(word, DEEDS):
        raise NoWord("no deed")
    match word:
        case "plus":
            return (one + other) & greatest(wide)
        case "minus":
            return (one - other) & greatest(wide)
        case "times":
            return (one * other) & greatest(wide)
        case "and":
            return one & other
        case "or":
            return one | other
        case "either":
            return one ^ other
        case "left":
            return moved_left(one, other, wide)
        case _:
            return moved_right(one, other, wide)


def asked(word, one, other, *, wide=WIDE):
    """Whether an ask of two worths is answered yes."""
    if not is_among(word, ASKS):
        raise NoWord("no ask")
    match word:
        case "same":
            return one == other
        case "under":
            return one < other
        case "upto":
            return one <= other
        case "below":
            return signed(one, wide=wide) < signed(other, wide=wide)
        case "least":
            return signed(one, wide=wide) <= signed(other, wide=wide)
        case "bits":
            return (one & other) != 0
        case _:
            return not asked(contrary(word), one, other, wide=wide)


def contrary(word):
    """The ask that is answered yes just where this one is answered no."""
    for first, second in CONTRARIES:
        if is_among(word, (first, second)):
            return second if word == first else first
    raise NoWord("no ask")
