"""Reckoning with known numbers: what comes of two by a deed, and what an answered ask tells of two."""

from boundgate.bits import MOVES, bits_done, met_bits
from boundgate.errors import NoWord
from boundgate.known import highest_signed, lowest_signed, settled
from boundgate.worths import ASKS, DEEDS, WIDE, asked, contrary, done, greatest, is_among, signed

EXCHANGED = {"over": "under", "from": "upto", "above": "below", "notbelow": "least"}


def all_ones(worth):
    """All bits up to the highest one of a worth."""
    return greatest(worth.bit_length())


def deed_bits(word, one, other, wide):
    """The sure bits of what comes by a deed."""
    if word == "times":
        if one[1] == 0 and other[1] == 0:
            return (done(word, one[0], other[0], wide=wide), 0)
        return (0, greatest(wide))
    if word in MOVES:
        if other[1] == 0:
            return bits_done(word, one[:2], other[0], wide=wide)
        return (0, all_ones(one[3]) if word == "right" else greatest(wide))
    return bits_done(word, one[:2], other[:2], wide=wide)


def moved_ends(word, one, other, wide):
    """Least and most of what comes by left or right."""
    everything = (0, greatest(wide))
    if other[1] != 0:
        return everything
    places = other[0]
    if word == "right":
        return (done(word, one[2], places, wide=wide), done(word, one[3], places, wide=wide))
    # Nothing is left of bits that are moved from the width on; their sure bits tell that.
    if places >= wide or one[3] << places > greatest(wide):
        return everything
    return (one[2] << places, one[3] << places)


def deed_ends(word, one, other, wide):
    """Least and most of what comes by a deed."""
    least, most = one[2], one[3]
    other_least, other_most = other[2], other[3]
    top = greatest(wide)
    match word:
        case "plus":
            return (least + other_least, most + other_most) if most + other_most <= top else (0, top)
        case "times":
            return (least * other_least, most * other_most) if most * other_most <= top else (0, top)
        case "minus":
            return (least - other_most, most - other_least) if least >= other_most else (0, top)
        case "and":
            return (0, min(most, other_most))
        case "or":
            return (max(least, other_least), all_ones(most | other_most))
        case "either":
            return (0, all_ones(most | other_most))
        case _:
            return moved_ends(word, one, other, wide)


def deed_signed_ends(word, one, other, wide):
    """Low and high of what comes by a deed."""
    lowest, highest = lowest_signed(wide), highest_signed(wide)
    low, high = lowest, highest
    if word == "plus":
        low, high = one[4] + other[4], one[5] + other[5]
    elif word == "minus":
        low, high = one[4] - other[5], one[5] - other[4]
    if low < lowest or high > highest:
        return (lowest, highest)
    return (low, high)


def known_done(word, one, other, *, wide=WIDE):
    """What is known of all that comes by a deed of worths that two known numbers hold."""
    if not is_among(word, DEEDS):
        raise NoWord("no deed")
    bits = deed_bits(word, one, other, wide)
    ends = deed_ends(word, one, other, wide)
    signed_ends = deed_signed_ends(word, one, other, wide)
    return settled(bits + ends + signed_ends, wide=wide)


def met_known(one, other):
    """What both hold, perhaps not settled; None where their bits have nothing in common."""
    bits = met_bits(one[:2], other[:2])
    if bits is None:
        return None
    least, most = max(one[2], other[2]), min(one[3], other[3])
    low, high = max(one[4], other[4]), min(one[5], other[5])
    return bits + (least, most, low, high)


def cut_worth(known, worth, wide):
    """A known number without a worth at its ends, one step each."""
    value, unsure, least, most, low, high = known
    with_sign = signed(worth, wide=wide)
    if least == worth:
        least += 1
    if most == worth:
        most -= 1
    if low == with_sign:
        low += 1
    if high == with_sign:
        high -= 1
    return (value, unsure, least, most, low, high)


def cut_order(lesser, greater, step):
    """Both known numbers where the first is at least a step less than the second."""
    most = min(lesser[3], greater[3] - step)
    least = max(greater[2], lesser[2] + step)
    return (
        (lesser[0], lesser[1], lesser[2], most, lesser[4], lesser[5]),
        (greater[0], greater[1], least, greater[3], greater[4], greater[5]),
    )


def cut_signed_order(lesser, greater, step):
    """As cut_order, with sign."""
    high = min(lesser[5], greater[5] - step)
    low = max(greater[4], lesser[4] + step)
    return (
        (lesser[0], lesser[1], lesser[2], lesser[3], lesser[4], high),
        (greater[0], greater[1], greater[2], greater[3], low, greater[5]),
    )


def with_bits(known, bits):
    """A known number that has these bits."""
    # A bit that is neither sure 1 nor unsure is sure 0: nothing is held then.
    if (known[0] | known[1]) & bits != bits:
        return None
    return (known[0] | bits, known[1] & ~bits) + known[2:]


def without_bits(known, bits):
    """A known number that has none of these bits."""
    if known[0] & bits != 0:
        return None
    return (known[0], known[1] & ~bits) + known[2:]


def told_by_worth(word, known, worth, wide):
    """What unlike, bits and nobits tell of a known number where the other one is just a worth."""
    if word == "unlike":
        return cut_worth(known, worth, wide)
    if word == "nobits":
        return without_bits(known, worth)
    if worth == 0:
        return None
    if worth & (worth - 1) == 0:
        return with_bits(known, worth)
    return known


def cut_by_order(word, one, other):
    """What the asks of order tell of both."""
    match word:
        case "under":
            return cut_order(one, other, 1)
        case "upto":
            return cut_order(one, other, 0)
        case "below":
            return cut_signed_order(one, other, 1)
        case "least":
            return cut_signed_order(one, other, 0)
        case _:
            second, first = cut_by_order(EXCHANGED[word], other, one)
            return (first, second)


def cut_both(word, one, other, worths, wide):
    """What an ask that is answered yes tells of both; worths are what they are just, or None."""
    if word == "same":
        met = met_known(one, other)
        return (met, met)
    if word not in ("unlike", "bits", "nobits"):
        return cut_by_order(word, one, other)
    if worths[0] is not None:
        return (one, told_by_worth(word, other, worths[0], wide))
    if worths[1] is not None:
        return (told_by_worth(word, one, worths[1], wide), other)
    return (one, other)


def both_settled(pair, wide):
    """Both settled, None where one of them can hold nothing."""
    if pair[0] is None or pair[1] is None:
        return None
    first, second = settled(pair[0], wide=wide), settled(pair[1], wide=wide)
    if first is None or second is None:
        return None
    return (first, second)


def sharpened(word, one, other, *, truth=True, wide=WIDE):
    """What is known of both where an ask of them is answered so; None where one can hold nothing."""
    if not is_among(word, ASKS):
        raise NoWord("no ask")
    if not truth:
        word = contrary(word)
    plain = both_settled((one, other), wide)
    if plain is None:
        return None
    worths = [known[0] if known[1] == 0 else None for known in plain]
    if worths[0] is not None and worths[1] is not None:
        return plain if asked(word, worths[0], worths[1], wide=wide) else None
    return both_settled(cut_both(word, one, other, worths, wide), wide)
