"""Points [9] and [10], with part (c) of [3] and the interface's "boundgate/reckon.py"."""

import copy
import random
import unittest

from boundgate import reckon as module
from boundgate.bits import bits_done
from boundgate.errors import NoWord
from boundgate.known import all_of, is_known, just, lies_within, settled, span
from boundgate.reckon import known_done, sharpened
from boundgate.worths import ASKS, DEEDS, WIDE, asked, done
from tests.things import (
    all_known, cost, drawn_known, held, held_by, odd_things, plain_settled, shape, sharpest, some_held, with_sign,
)

MOVES = ("left", "right")
CONTRARY = {
    "same": "unlike", "under": "from", "upto": "over", "below": "notbelow", "least": "above", "bits": "nobits",
}
CONTRARY.update({other: one for one, other in CONTRARY.items()})
NO_WORDS = ["", "Plus", "same ", " plus", "xor", "shift", "contrary", b"plus", ("plus",), ["left"], {"and": 1}, 0, 1]


def settled_of(wide):
    """All settled known numbers of a small width."""
    told = {plain_settled(known, wide) for known in all_known(wide)}
    return sorted(known for known in told if known is not None)


def ones_up_to(*worths):
    """The least number of ones alone that is not less than any of these."""
    ones = 0
    while ones < max(worths):
        ones = 2 * ones + 1
    return ones


def wanted_bits(word, one, other, wide):
    """The sure bits of point [9]."""
    top = 2 ** wide - 1
    if word == "times":
        both = one[1] == other[1] == 0
        return (one[0] * other[0] % (top + 1), 0) if both else (0, top)
    if word in MOVES and other[1]:
        return (0, ones_up_to(one[3])) if word == "right" else (0, top)
    if wide > 4:
        return bits_done(word, one[:2], other[0] if word in MOVES else other[:2], wide=wide)
    came = [done(word, a, b, wide=wide) for a in held(one[:2], wide) for b in held(other[:2], wide)]
    return sharpest(came, wide)


def wanted_ends(word, one, other, wide):
    """Least and most of point [9]."""
    top = 2 ** wide - 1
    (least, most), (other_least, other_most) = one[2:4], other[2:4]
    told = {
        "plus": (least + other_least, most + other_most),
        "times": (least * other_least, most * other_most),
        "minus": (least - other_most, most - other_least),
        "and": (0, min(most, other_most)),
        "or": (max(least, other_least), ones_up_to(most, other_most)),
        "either": (0, ones_up_to(most, other_most)),
    }
    if word in MOVES and other[1] == 0:
        factor = 2 ** min(other[0], wide)
        told["left"] = (least * factor, most * factor)
        told["right"] = (least // factor, most // factor)
    came = told.get(word, (0, top))
    return came if 0 <= came[0] and came[1] <= top else (0, top)


def wanted_signs(word, one, other, wide):
    """Low and high of point [9]."""
    half = 2 ** (wide - 1)
    told = {"plus": (one[4] + other[4], one[5] + other[5]), "minus": (one[4] - other[5], one[5] - other[4])}
    low, high = told.get(word, (-half, half - 1))
    return (low, high) if -half <= low and high < half else (-half, half - 1)


def wanted_done(word, one, other, wide):
    six = (
        *wanted_bits(word, one, other, wide), *wanted_ends(word, one, other, wide),
        *wanted_signs(word, one, other, wide),
    )
    return plain_settled(six, wide)


def is_just(known):
    return known[1] == 0 and known[2] == known[3] and known[4] == known[5]


def turned(known, **parts):
    """A known number with some of its parts turned, by their names."""
    names = ("value", "unsure", "least", "most", "low", "high")
    return tuple(parts.get(name, part) for name, part in zip(names, known))


def wanted_unlike(known, worth, wide):
    sign = with_sign(worth, wide)
    return turned(
        known, least=known[2] + (known[2] == worth), most=known[3] - (known[3] == worth),
        low=known[4] + (known[4] == sign), high=known[5] - (known[5] == sign),
    )


def wanted_by_bits(word, known, worth, wide):
    """What is left of the bits, bit by bit, None where a sure bit would be both."""
    value, unsure = known[:2]
    if word == "bits" and worth == 0:
        return None
    for place in range(wide):
        bit = 2 ** place
        if not worth & bit or (word == "bits" and worth != bit):
            continue
        if unsure & bit:
            unsure -= bit
            value += bit if word == "bits" else 0
        elif bool(value & bit) != (word == "bits"):
            return None
    return turned(known, value=value, unsure=unsure)


def wanted_cut(word, one, other, wide):
    """The pair of point [10] ahead of being settled; of a yes, for settled numbers that aren't both just worths."""
    if word in ("over", "from", "above", "notbelow"):
        plain = {"over": "under", "from": "upto", "above": "below", "notbelow": "least"}[word]
        return wanted_cut(plain, other, one, wide)[::-1]
    step = 1 if word in ("under", "below") else 0
    if word in ("under", "upto"):
        return (turned(one, most=min(one[3], other[3] - step)), turned(other, least=max(other[2], one[2] + step)))
    if word in ("below", "least"):
        return (turned(one, high=min(one[5], other[5] - step)), turned(other, low=max(other[4], one[4] + step)))
    if word == "same":
        inside = set(held(one[:2], wide)) & set(held(other[:2], wide)) if wide <= 4 else None
        if wide <= 4:
            bits = sharpest(inside, wide) if inside else None
        elif (one[0] ^ other[0]) & ~one[1] & ~other[1]:
            bits = None
        else:
            bits = (one[0] | other[0], one[1] & other[1])
        ends = (max(one[2], other[2]), min(one[3], other[3]), max(one[4], other[4]), min(one[5], other[5]))
        met = None if bits is None else (*bits, *ends)
        return (met, met)
    if is_just(other):
        return wanted_cut(word, other, one, wide)[::-1]
    if not is_just(one):
        return (one, other)
    if word == "unlike":
        return (one, wanted_unlike(other, one[0], wide))
    return (one, wanted_by_bits(word, other, one[0], wide))


def wanted_sharp(word, one, other, wide):
    if is_just(one) and is_just(other):
        return (one, other) if asked(word, one[0], other[0], wide=wide) else None
    pair = wanted_cut(word, one, other, wide)
    if None in pair:
        return None
    pair = tuple(plain_settled(known, wide) for known in pair)
    return None if None in pair else pair


def small_pairs():
    """Pairs of settled known numbers of small widths: all of widths 1 and 2, some of width 3."""
    pairs = []
    for wide, step, other_step in ((1, 1, 1), (2, 1, 1), (3, 41, 43)):
        numbers = settled_of(wide)
        pairs += [(one, other, wide) for one in numbers[::step] for other in numbers[::other_step]]
    numbers = settled_of(3)
    source = random.Random(3)
    pairs += [(source.choice(numbers), source.choice(numbers), 3) for _ in range(1500)]
    return pairs


def loose_pairs():
    """Pairs of known numbers that perhaps aren't settled, of small widths."""
    source = random.Random(4)
    pairs = []
    for wide in (1, 2, 3):
        numbers = all_known(wide)
        pairs += [(source.choice(numbers), source.choice(numbers), wide) for _ in range(1200)]
    return pairs


def great_pairs(many):
    """Drawn pairs of settled known numbers of greater widths."""
    pairs = []
    for wide in (4, 8, 15, WIDE, 31, 32):
        source = random.Random(wide)
        for _ in range(many):
            one = drawn_known(source, wide)
            other = drawn_known(source, wide)
            if source.random() < 0.3:
                worth = source.choice((0, 1, 2, wide - 1, wide, wide + 1, 2 ** wide - 1, 2 ** (wide - 1)))
                other = just(worth % 2 ** wide, wide=wide)
            if source.random() < 0.1:
                one, other = other, one
            pairs.append((one, other, wide))
    return pairs


class Interface(unittest.TestCase):
    def test_arguments_by_place_and_by_name(self):
        self.assertEqual(shape(known_done), (["word", "one", "other"], {"wide": 16}))
        self.assertEqual(shape(sharpened), (["word", "one", "other"], {"truth": True, "wide": 16}))

    def test_defined_in_the_file(self):
        for name in ("known_done", "sharpened"):
            self.assertEqual(getattr(module, name).__module__, "boundgate.reckon")

    def test_by_names(self):
        self.assertEqual(known_done(other=just(2), one=just(3), word="plus"), just(5))
        self.assertEqual(known_done(wide=2, other=just(2, wide=2), one=just(3, wide=2), word="plus"), just(1, wide=2))
        both = (just(3), just(2))
        self.assertEqual(sharpened(other=both[1], one=both[0], word="over"), both)
        self.assertIsNone(sharpened(other=both[1], truth=False, one=both[0], word="over"))

    def test_truth_and_width_by_name_alone(self):
        for action in (
            lambda: known_done("plus", just(0), just(0), 16), lambda: sharpened("same", just(0), just(0), True),
        ):
            with self.assertRaises(TypeError):
                action()


class KnownDone(unittest.TestCase):
    def check(self, word, one, other, wide):
        told = known_done(word, one, other, wide=wide)
        self.assertEqual(told, wanted_done(word, one, other, wide), (word, one, other, wide))
        if told is not None:
            self.assertIs(type(told), tuple)
            self.assertIs(is_known(told, wide=wide), True)
            self.assertEqual(settled(told, wide=wide), told)

    def check_held(self, word, one, other, wide):
        told = known_done(word, one, other, wide=wide)
        came = [done(word, a, b, wide=wide) for a in held_by(one, wide) for b in held_by(other, wide)]
        if told is None:
            self.assertEqual(came, [], (word, one, other, wide))
            return
        self.assertLessEqual(set(came), set(held_by(told, wide)), (word, one, other, wide))

    def test_small_widths(self):
        for one, other, wide in small_pairs():
            for word in DEEDS:
                self.check(word, one, other, wide)
                self.check_held(word, one, other, wide)

    def test_known_numbers_that_are_not_settled(self):
        for one, other, wide in loose_pairs():
            for word in DEEDS:
                self.check(word, one, other, wide)
                self.check_held(word, one, other, wide)

    def test_greater_widths(self):
        source = random.Random(5)
        for one, other, wide in great_pairs(120):
            for word in DEEDS:
                self.check(word, one, other, wide)
                told = known_done(word, one, other, wide=wide)
                for a in some_held(source, one, wide):
                    for b in some_held(source, other, wide):
                        came = just(done(word, a, b, wide=wide), wide=wide)
                        self.assertIsNotNone(told)
                        self.assertIs(lies_within(came, told), True, (word, one, other, a, b))

    def test_just_worths(self):
        for wide in (1, 4, WIDE, 32):
            top = 2 ** wide - 1
            worths = sorted({0, 1, 2 & top, 3 & top, wide & top, top // 2, top - 1, top})
            for a in worths:
                for b in worths:
                    for word in DEEDS:
                        told = known_done(word, just(a, wide=wide), just(b, wide=wide), wide=wide)
                        self.assertEqual(told, just(done(word, a, b, wide=wide), wide=wide), (word, a, b))

    def test_ends_of_plus_and_times(self):
        self.assertEqual(known_done("plus", span(1, 65530), span(2, 5)), span(3, 65535))
        self.assertEqual(known_done("plus", span(1, 65530), span(2, 6))[2:4], (0, 65535))
        self.assertEqual(known_done("times", span(2, 255), span(3, 257)), span(6, 65535))
        self.assertEqual(known_done("times", span(2, 256), span(3, 256))[2:4], (0, 65535))

    def test_ends_of_minus(self):
        self.assertEqual(known_done("minus", span(5, 9), span(2, 5))[2:4], (0, 7))
        self.assertEqual(known_done("minus", span(4, 9), span(2, 5)), settled((0, 65535, 0, 65535, -1, 7)))

    def test_ends_of_and_or_either(self):
        self.assertEqual(known_done("and", span(3, 20), span(2, 9))[2:4], (0, 9))
        self.assertEqual(known_done("or", span(3, 20), span(2, 9))[2:4], (3, 31))
        self.assertEqual(known_done("either", span(3, 20), span(2, 9))[2:4], (0, 31))

    def test_moves_by_a_sure_number(self):
        self.assertEqual(known_done("left", span(3, 4095), just(4))[2:4], (48, 65520))
        self.assertEqual(known_done("left", span(3, 4096), just(4))[:2], (0, 65520))
        self.assertEqual(known_done("left", span(3, 4096), just(4))[2:4], (0, 65520))
        self.assertEqual(known_done("right", span(33, 64), just(4))[2:4], (2, 4))
        for places in (16, 17, 65535):
            for word in MOVES:
                self.assertEqual(known_done(word, all_of(), just(places)), just(0))

    def test_moves_by_an_unsure_number(self):
        self.assertEqual(known_done("left", span(0, 1), span(0, 1)), all_of())
        self.assertEqual(known_done("left", just(0), span(0, 1)), all_of())
        self.assertEqual(known_done("right", span(3, 20), span(0, 1)), span(0, 31))
        self.assertEqual(known_done("right", span(3, 16), span(0, 1)), span(0, 31))
        self.assertEqual(known_done("right", span(3, 15), span(0, 1)), span(0, 15))
        self.assertEqual(known_done("right", just(0), span(0, 1)), just(0))
        self.assertEqual(known_done("right", all_of(), span(0, 1)), all_of())

    def test_signs(self):
        signs = settled((0, 65535, 0, 65535, -3, 5))
        self.assertEqual(known_done("plus", signs, signs)[4:], (-6, 10))
        self.assertEqual(known_done("minus", signs, signs)[4:], (-8, 8))
        wide_signs = settled((0, 65535, 0, 65535, -30000, 30000))
        self.assertEqual(known_done("plus", wide_signs, settled((0, 65535, 0, 65535, -2768, 2767)))[4:],
                         (-32768, 32767))
        self.assertEqual(known_done("plus", wide_signs, settled((0, 65535, 0, 65535, -2768, 2766)))[4:],
                         (-32768, 32766))
        self.assertEqual(known_done("plus", wide_signs, settled((0, 65535, 0, 65535, -2769, 5)))[4:],
                         (-32768, 32767))
        self.assertEqual(known_done("times", signs, signs)[4:], (-32768, 32767))

    def test_none_only_of_one_that_holds_nothing(self):
        nothing = (0, 4, 1, 4, -3, 0)
        self.assertEqual(held_by(nothing, 3), [])
        for word in DEEDS:
            for one, other in ((nothing, all_of(wide=3)), (all_of(wide=3), nothing)):
                self.check(word, one, other, 3)
        loose = (0, 0, 5, 9, -32768, 32767)
        self.assertIsNone(known_done("plus", loose, just(0)))
        self.assertIsNone(known_done("or", just(0), loose))

    def test_the_width_left_out_is_wide(self):
        self.assertEqual(known_done("plus", just(65535), just(1)), just(0))
        self.assertEqual(known_done("plus", just(65535, wide=32), just(1, wide=32), wide=32), just(65536, wide=32))

    def test_no_answer_is_dear(self):
        for wide in (WIDE, 32):
            everything = all_of(wide=wide)
            for other in (everything, just(2 ** wide - 1, wide=wide)):
                for word in DEEDS:
                    lines, room = cost(lambda: known_done(word, everything, other, wide=wide))
                    self.assertLess(lines, 4000)
                    self.assertLess(room, 100000)
                for word in ASKS:
                    lines, room = cost(lambda: sharpened(word, everything, other, wide=wide))
                    self.assertLess(lines, 4000)
                    self.assertLess(room, 100000)


class Sharpened(unittest.TestCase):
    def check(self, word, one, other, wide):
        told = sharpened(word, one, other, wide=wide)
        self.assertEqual(told, wanted_sharp(word, one, other, wide), (word, one, other, wide))
        self.assertEqual(sharpened(word, one, other, truth=True, wide=wide), told)
        self.assertEqual(sharpened(CONTRARY[word], one, other, truth=False, wide=wide), told)
        if told is not None:
            self.check_pair(told, one, other, wide)

    def check_pair(self, told, one, other, wide):
        self.assertIs(type(told), tuple)
        self.assertEqual(len(told), 2)
        for known, ahead in zip(told, (one, other)):
            self.assertIs(is_known(known, wide=wide), True)
            self.assertEqual(settled(known, wide=wide), known)
            self.assertIs(lies_within(known, ahead), True)

    def check_held(self, word, truth, one, other, wide):
        told = sharpened(word, one, other, truth=truth, wide=wide)
        why = (word, truth, one, other, wide)
        pairs = [
            (a, b) for a in held_by(one, wide) for b in held_by(other, wide)
            if asked(word, a, b, wide=wide) is truth
        ]
        if told is None:
            self.assertEqual(pairs, [], why)
            return
        firsts, seconds = set(held_by(told[0], wide)), set(held_by(told[1], wide))
        self.assertLessEqual({a for a, _ in pairs}, firsts, why)
        self.assertLessEqual({b for _, b in pairs}, seconds, why)

    def test_small_widths(self):
        for one, other, wide in small_pairs():
            for word in ASKS:
                self.check(word, one, other, wide)
                self.check_held(word, True, one, other, wide)
                self.check_held(word, False, one, other, wide)

    def test_known_numbers_that_are_not_settled(self):
        for one, other, wide in loose_pairs():
            for word in ASKS:
                self.check_held(word, True, one, other, wide)
                self.check_held(word, False, one, other, wide)
                told = sharpened(word, one, other, wide=wide)
                if told is not None:
                    self.check_pair(told, one, other, wide)

    def test_greater_widths(self):
        source = random.Random(6)
        for one, other, wide in great_pairs(100):
            for word in ASKS:
                self.check(word, one, other, wide)
                told = sharpened(word, one, other, wide=wide)
                for a in some_held(source, one, wide):
                    for b in some_held(source, other, wide):
                        if asked(word, a, b, wide=wide):
                            self.assertIsNotNone(told, (word, one, other, a, b))
                            self.assertIs(lies_within(just(a, wide=wide), told[0]), True, (word, one, other, a, b))
                            self.assertIs(lies_within(just(b, wide=wide), told[1]), True, (word, one, other, a, b))

    def test_just_worths(self):
        for wide in (1, 3, WIDE, 32):
            top = 2 ** wide - 1
            worths = sorted({0, 1, 2 & top, top // 2, top // 2 + 1, top - 1, top})
            for a in worths:
                for b in worths:
                    pair = (just(a, wide=wide), just(b, wide=wide))
                    for word in ASKS:
                        for truth in (True, False):
                            told = sharpened(word, *pair, truth=truth, wide=wide)
                            fits = asked(word, a, b, wide=wide) is truth
                            self.assertEqual(told, pair if fits else None, (word, a, b, truth))

    def test_same(self):
        one, other = span(2, 9), settled((1, 65534, 0, 65535, -5, 7))
        met = settled((1, 14, 2, 9, 0, 7))
        self.assertEqual(sharpened("same", one, other), (met, met))
        self.assertEqual(met, (1, 6, 2, 7, 2, 7))
        self.assertIsNone(sharpened("same", span(2, 9), span(10, 12)))
        self.assertIsNone(sharpened("same", (0, 65534, 0, 65534, -32768, 32766), (1, 65534, 1, 65535, -32767, 32767)))
        self.assertEqual(sharpened("unlike", one, other, truth=False), (met, met))

    def test_unlike(self):
        self.assertEqual(sharpened("unlike", just(2), span(2, 9)), (just(2), span(3, 9)))
        self.assertEqual(sharpened("unlike", span(2, 9), just(9)), (span(2, 8), just(9)))
        self.assertEqual(sharpened("unlike", span(2, 9), just(5)), (span(2, 9), just(5)))
        self.assertEqual(sharpened("unlike", span(2, 9), span(2, 3)), (span(2, 9), span(2, 3)))
        signs = settled((0, 65535, 0, 65535, -4, 6))
        self.assertEqual(sharpened("unlike", signs, just(65532))[0], settled((0, 65535, 0, 65535, -3, 6)))
        self.assertEqual(sharpened("unlike", signs, just(6))[0], settled((0, 65535, 0, 65535, -4, 5)))
        self.assertEqual(sharpened("unlike", all_of(), just(0)), (span(1, 65535), just(0)))
        self.assertEqual(sharpened("unlike", all_of(), just(65535)), (span(0, 65534), just(65535)))
        self.assertEqual(sharpened("unlike", all_of(), just(32768))[0], (0, 65535, 0, 65535, -32767, 32767))
        self.assertEqual(sharpened("same", just(2), span(2, 3), truth=False), (just(2), just(3)))

    def test_one_step_each(self):
        evens = settled((0, 14, 2, 12, -32768, 32767))
        self.assertEqual(sharpened("unlike", evens, just(2))[0], settled((0, 14, 3, 12, -32768, 32767)))

    def test_order(self):
        self.assertEqual(sharpened("under", all_of(), all_of()), (span(0, 65534), span(1, 65535)))
        self.assertEqual(sharpened("upto", span(3, 20), span(2, 9)), (span(3, 9), span(3, 9)))
        self.assertEqual(sharpened("under", span(3, 20), span(2, 9)), (span(3, 8), span(4, 9)))
        self.assertEqual(sharpened("over", span(2, 9), span(3, 20)), (span(4, 9), span(3, 8)))
        self.assertEqual(sharpened("from", span(2, 9), span(3, 20)), (span(3, 9), span(3, 9)))
        self.assertIsNone(sharpened("under", span(3, 5), span(0, 3)))
        self.assertIsNone(sharpened("under", all_of(), just(0)))
        self.assertIsNone(sharpened("over", all_of(), just(65535)))
        self.assertIsNone(sharpened("under", just(65535), all_of()))
        self.assertIsNone(sharpened("upto", span(4, 5), span(0, 3)))

    def test_order_with_sign(self):
        everything = all_of()
        below = sharpened("below", everything, just(0))
        self.assertEqual(below, (span(32768, 65535), just(0)))
        self.assertEqual(sharpened("notbelow", everything, just(0)), (span(0, 32767), just(0)))
        self.assertEqual(sharpened("below", everything, everything),
                         ((0, 65535, 0, 65535, -32768, 32766), (0, 65535, 0, 65535, -32767, 32767)))
        self.assertEqual(sharpened("above", everything, just(0)), (span(1, 32767), just(0)))
        self.assertEqual(sharpened("least", everything, just(65535)), (span(32768, 65535), just(65535)))
        self.assertIsNone(sharpened("below", everything, just(32768)))
        self.assertIsNone(sharpened("above", everything, just(32767)))

    def test_bits(self):
        self.assertEqual(sharpened("bits", all_of(), just(8))[0], settled((8, 65527, 0, 65535, -32768, 32767)))
        self.assertEqual(sharpened("bits", just(8), all_of())[1], settled((8, 65527, 0, 65535, -32768, 32767)))
        self.assertEqual(sharpened("bits", span(0, 7), just(12)), (span(0, 7), just(12)))
        self.assertIsNone(sharpened("bits", span(0, 7), just(8)))
        self.assertIsNone(sharpened("bits", all_of(), just(0)))
        self.assertIsNone(sharpened("bits", just(0), all_of()))
        self.assertEqual(sharpened("bits", span(0, 7), span(8, 9)), (span(0, 7), span(8, 9)))

    def test_nobits(self):
        self.assertEqual(sharpened("nobits", all_of(), just(65532)), (span(0, 3), just(65532)))
        self.assertEqual(sharpened("nobits", just(65532), all_of()), (just(65532), span(0, 3)))
        self.assertEqual(sharpened("nobits", all_of(), just(0)), (all_of(), just(0)))
        self.assertIsNone(sharpened("nobits", span(8, 9), just(12)))
        self.assertEqual(sharpened("nobits", span(8, 9), span(8, 9)), (span(8, 9), span(8, 9)))
        self.assertEqual(sharpened("bits", all_of(), just(65532), truth=False), (span(0, 3), just(65532)))


class Refusals(unittest.TestCase):
    def test_no_deed(self):
        for word in NO_WORDS + odd_things() + list(ASKS):
            with self.assertRaises(NoWord) as caught:
                known_done(word, just(1), just(2))
            self.assertIs(type(caught.exception), NoWord)
            with self.assertRaises(NoWord):
                known_done(word, just(1, wide=32), just(2, wide=32), wide=32)

    def test_no_ask(self):
        for word in NO_WORDS + odd_things() + list(DEEDS):
            for truth in (True, False):
                with self.assertRaises(NoWord) as caught:
                    sharpened(word, just(1), just(2), truth=truth)
                self.assertIs(type(caught.exception), NoWord)
                with self.assertRaises(NoWord):
                    sharpened(word, all_of(), span(1, 2), truth=truth)
                with self.assertRaises(NoWord):
                    sharpened(word, (0, 0, 5, 9, 5, 9), just(1), truth=truth)

    def test_what_is_handed_in_stays_as_it_is(self):
        for thing in ([0, 0], [["plus"], {}], {"left": [0]}, ("same", [0])):
            ahead = copy.deepcopy(thing)
            with self.assertRaises(NoWord):
                known_done(thing, just(1), just(2))
            with self.assertRaises(NoWord):
                sharpened(thing, just(1), just(2))
            self.assertEqual(thing, ahead)


if __name__ == "__main__":
    unittest.main()
