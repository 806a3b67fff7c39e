"""Known numbers: tuples (value, unsure, least, most, low, high), what they hold, and how they are settled."""

from boundgate.bits import bits_within, has_worth, is_bits, met_bits
from boundgate.worths import WIDE, greatest, is_whole, is_worth, signed


def lowest_signed(wide):
    """The least worth with sign of a width."""
    return -(1 << (wide - 1))


def highest_signed(wide):
    """The greatest worth with sign of a width."""
    return (1 << (wide - 1)) - 1


def is_signed(thing, wide):
    """Whether a thing, of any kind, is a worth with sign of the width."""
    return is_whole(thing) and lowest_signed(wide) <= thing <= highest_signed(wide)


def is_known(thing, *, wide=WIDE):
    """Whether a thing, of any kind, is a known number of the width."""
    if not isinstance(thing, tuple) or len(thing) != 6:
        return False
    value, unsure, least, most, low, high = thing
    if not is_bits((value, unsure), wide=wide):
        return False
    if not is_worth(least, wide=wide) or not is_worth(most, wide=wide) or least > most:
        return False
    return is_signed(low, wide) and is_signed(high, wide) and low <= high


def holds(known, worth, *, wide=WIDE):
    """Whether a worth is held: by the bits, by least and most, by low and high."""
    value, unsure, least, most, low, high = known
    return has_worth((value, unsure), worth) and least <= worth <= most and low <= signed(worth, wide=wide) <= high


def lies_within(one, other):
    """Whether one's bits, least and most, low and high lie within the other one's."""
    return (
        other[2] <= one[2] and one[3] <= other[3]
        and other[4] <= one[4] and one[5] <= other[5]
        and bits_within(one[:2], other[:2])
    )


def alike_bits(least, most):
    """Sure bits: those that least and most have alike above the first in which they differ."""
    unsure = greatest((least ^ most).bit_length())
    return (least & ~unsure, unsure)


def settled_ends(least, most, low, high, wide):
    """Both pairs of ends, each cut by the other one."""
    if least >> (wide - 1) == most >> (wide - 1):
        low = max(low, signed(least, wide=wide))
        high = min(high, signed(most, wide=wide))
    if (low < 0) == (high < 0):
        least = max(least, low & greatest(wide))
        most = min(most, high & greatest(wide))
    return (least, most, low, high)


def settled_once(known, wide):
    """What the rules make of a known number, each done once; None where nothing can be held."""
    value, unsure, least, most, low, high = known
    # Ends are just cut, so a pair that is exchanged stays so: it is enough to look at them here.
    ends = settled_ends(max(least, value), min(most, value | unsure), low, high, wide)
    if ends[0] > ends[1] or ends[2] > ends[3]:
        return None
    bits = met_bits((value, unsure), alike_bits(ends[0], ends[1]))
    if bits is None:
        return None
    return bits + ends


def settled(known, *, wide=WIDE):
    """What a known number comes to by the rules, None where by these nothing can be held."""
    # There are few rounds: where the ends have cut one another, just a new sure bit turns more.
    ahead = known
    turned = settled_once(ahead, wide)
    while turned is not None and turned != ahead:
        ahead = turned
        turned = settled_once(ahead, wide)
    return turned


def all_of(*, wide=WIDE):
    """The known number that knows nothing."""
    return (0, greatest(wide), 0, greatest(wide), lowest_signed(wide), highest_signed(wide))


def just(worth, *, wide=WIDE):
    """The known number that holds just a worth."""
    with_sign = signed(worth, wide=wide)
    return (worth, 0, worth, worth, with_sign, with_sign)


def span(least, most, *, wide=WIDE):
    """The known number of all worths from least to most."""
    return settled((0, greatest(wide), least, most, lowest_signed(wide), highest_signed(wide)), wide=wide)
