"""Sure bits: tuples (value, unsure) that hold each worth with value's bits where unsure has none."""

from boundgate.errors import NoBit, NoWord
from boundgate.worths import WIDE, done, greatest, is_among, is_whole, is_worth

MOVES = ("left", "right")

BIT_WORDS = ("plus", "minus", "and", "or", "either", "left", "right")


def is_bits(thing, *, wide=WIDE):
    """Whether a thing, of any kind, is sure bits of the width."""
    if not isinstance(thing, tuple) or len(thing) != 2:
        return False
    value, unsure = thing
    if not is_worth(value, wide=wide) or not is_worth(unsure, wide=wide):
        return False
    return (value & unsure) == 0


def has_worth(bits, worth):
    """Whether a worth is held."""
    value, unsure = bits
    return (worth | unsure) == (value | unsure)


def bits_within(one, other):
    """Whether all worths that one holds are held by the other one."""
    return (one[1] | other[1]) == other[1] and has_worth(other, one[0])


def both_bits(one, other):
    """The sharpest sure bits that hold all that the two hold."""
    unsure = one[1] | other[1] | (one[0] ^ other[0])
    return (one[0] & ~unsure, unsure)


def met_bits(one, other):
    """The sure bits that hold just what both hold, None where that is nothing."""
    unsure = one[1] | other[1]
    if (one[0] | unsure) != (other[0] | unsure):
        return None
    return (one[0] | other[0], one[1] & other[1])


def plus_bits(one, other, wide):
    """The sure bits of sums."""
    # A carry comes most easily into a bit where all unsure bits are 1, and least easily where all
    # are 0: where these two sums have a like carry, every sum has it.
    low = one[0] + other[0]
    high = low + one[1] + other[1]
    unsure = ((low ^ high) | one[1] | other[1]) & greatest(wide)
    return (low & ~unsure & greatest(wide), unsure)


def minus_bits(one, other, wide):
    """The sure bits of differences."""
    # As of sums: a borrow comes least easily in the greatest difference, most easily in the least.
    plain = one[0] - other[0]
    high = plain + one[1]
    low = plain - other[1]
    unsure = ((low ^ high) | one[1] | other[1]) & greatest(wide)
    return (plain & ~unsure & greatest(wide), unsure)


def and_bits(one, other):
    """The sure bits of what comes by and."""
    value = one[0] & other[0]
    may_be = (one[0] | one[1]) & (other[0] | other[1])
    return (value, may_be & ~value)


def or_bits(one, other):
    """The sure bits of what comes by or."""
    value = one[0] | other[0]
    return (value, (one[1] | other[1]) & ~value)


def either_bits(one, other):
    """The sure bits of what comes by either."""
    unsure = one[1] | other[1]
    return ((one[0] ^ other[0]) & ~unsure, unsure)


def moved_bits(word, one, places, wide):
    """The sure bits of what comes by left or right, by as many places."""
    return (done(word, one[0], places, wide=wide), done(word, one[1], places, wide=wide))


def bits_done(word, one, other, *, wide=WIDE):
    """The sharpest sure bits that hold all that comes of held worths by a word."""
    if not is_among(word, BIT_WORDS):
        raise NoWord("no word of sure bits")
    match word:
        case "plus":
            return plus_bits(one, other, wide)
        case "minus":
            return minus_bits(one, other, wide)
        case "and":
            return and_bits(one, other)
        case "or":
            return or_bits(one, other)
        case "either":
            return either_bits(one, other)
        case _:
            return moved_bits(word, one, other, wide)


def pairs_to_try(one, other, bit):
    """Pairs of held worths; of these some show a bit that is unsure by a word as 0, some as 1."""
    low, high = one[0], one[0] | one[1]
    other_low, other_high = other[0], other[0] | other[1]
    place = 1 << bit
    # The ends show what and, or, a carry and a borrow come to. Where the bit itself is unsure in
    # one of the two, turning it alone turns what comes by plus, minus and either.
    return (
        (low, other_low),
        (high, other_high),
        (high, other_low),
        (low, other_high),
        (low | (one[1] & place), other_low),
        (low, other_low | (other[1] & place)),
    )


def bit_pair(word, one, other, bit, *, wide=WIDE):
    """Two tuples of held worths by which what comes has 0 at an unsure bit, then 1."""
    unsure = bits_done(word, one, other, wide=wide)[1]
    if not is_whole(bit) or not 0 <= bit < wide or (unsure >> bit) & 1 == 0:
        raise NoBit("no unsure bit")
    if word in MOVES:
        pairs = ((one[0], other), (one[0] | one[1], other))
    else:
        pairs = pairs_to_try(one, other, bit)
    found = {}
    for pair in pairs:
        came = done(word, pair[0], pair[1], wide=wide)
        found.setdefault((came >> bit) & 1, pair)
    return (found[0], found[1])
