"""Points [6] and [7], and part (c) of [3], with the interface's "boundgate/bits.py"."""

import copy
import random
import unittest

from boundgate import bits as module
from boundgate.bits import bit_pair, bits_done, bits_within, both_bits, has_worth, is_bits, met_bits
from boundgate.errors import NoBit, NoWord
from boundgate.worths import ASKS, WIDE, done
from tests.things import all_bits, cost, held, odd_things, shape, sharpest

TWOS = ("plus", "minus", "and", "or", "either")
MOVES = ("left", "right")
NO_WORDS = ("times", "", "Plus", "plus ", "xor", "shift", b"plus", ("plus",), ["left"], {"and": 1}, 0, 1)


def drawn_bits(source, wide):
    """Sure bits with few, some or many unsure bits."""
    top = 2 ** wide - 1
    unsure = source.choice((0, top, source.getrandbits(wide), 1 << source.randrange(wide),
                            source.getrandbits(wide) & source.getrandbits(wide),
                            source.getrandbits(wide) | source.getrandbits(wide)))
    value = source.choice((0, top, source.getrandbits(wide), source.getrandbits(wide)))
    return (value & ~unsure, unsure)


def drawn_pairs(wide, many):
    source = random.Random(wide)
    return [(drawn_bits(source, wide), drawn_bits(source, wide)) for _ in range(many)]


def chosen_bits(wide):
    """Nothing sure, all sure, and unsure bits at the ends and about the half."""
    top = 2 ** wide - 1
    half = 2 ** (wide - 1)
    chosen = [
        (0, 0), (top, 0), (0, top), (1, 0), (half, 0), (0, 1), (0, half), (half, 1), (1, half),
        (top - 1, 1), (top - half, half), (half - 1, 0), (0, half - 1), (half, half - 1),
    ]
    # At width 1 the highest bit is the lowest one, too, so some of these are none there.
    return [bits for bits in chosen if bits[0] & bits[1] == 0]


def bit_of(worth, place):
    return (worth >> place) & 1


def carried_bits(word, one, other, wide):
    """Sums and differences bit by bit: which carries can come, and which bits come of them."""
    value = unsure = 0
    carries = {0}
    for place in range(wide):
        came, coming = set(), set()
        for a in places_of(one, place):
            for b in places_of(other, place):
                for carry in carries:
                    if word == "plus":
                        coming.add((a + b + carry) // 2)
                    else:
                        coming.add(1 if a - b - carry < 0 else 0)
                    came.add((a + b + carry) % 2)
        carries = coming
        if len(came) == 2:
            unsure += 2 ** place
        elif came == {1}:
            value += 2 ** place
    return (value, unsure)


def bitwise_bits(word, one, other, wide):
    """What comes by and, or, either, bit by bit."""
    value = unsure = 0
    for place in range(wide):
        came = set()
        for a in places_of(one, place):
            for b in places_of(other, place):
                came.add({"and": a * b, "or": max(a, b), "either": (a + b) % 2}[word])
        if len(came) == 2:
            unsure += 2 ** place
        elif came == {1}:
            value += 2 ** place
    return (value, unsure)


def plain_bits(word, one, other, wide):
    if word in ("plus", "minus"):
        return carried_bits(word, one, other, wide)
    return bitwise_bits(word, one, other, wide)


def places_of(bits, place):
    """What a bit may be."""
    return (0, 1) if bit_of(bits[1], place) else (bit_of(bits[0], place),)


class Checks(unittest.TestCase):
    def check_pairs(self, word, one, other, wide):
        """Each unsure bit has a pair that shows it, each other one is refused."""
        unsure = bits_done(word, one, other, wide=wide)[1]
        for bit in range(wide):
            if bit_of(unsure, bit):
                self.check_pair(word, one, other, bit, wide)
            else:
                with self.assertRaises(NoBit):
                    bit_pair(word, one, other, bit, wide=wide)

    def check_pair(self, word, one, other, bit, wide):
        told = bit_pair(word, one, other, bit, wide=wide)
        why = (word, one, other, bit, wide, told)
        self.assertIs(type(told), tuple, why)
        self.assertEqual(len(told), 2, why)
        for wanted, pair in enumerate(told):
            self.assertIs(type(pair), tuple, why)
            first, second = pair
            self.assertEqual(first & ~one[1], one[0], why)
            if word in MOVES:
                self.assertEqual(second, other, why)
            else:
                self.assertEqual(second & ~other[1], other[0], why)
            self.assertEqual(bit_of(done(word, first, second, wide=wide), bit), wanted, why)


class Interface(unittest.TestCase):
    def test_arguments_by_place_and_by_name(self):
        wide = {"wide": 16}
        self.assertEqual(shape(is_bits), (["thing"], wide))
        self.assertEqual(shape(has_worth), (["bits", "worth"], {}))
        self.assertEqual(shape(bits_within), (["one", "other"], {}))
        self.assertEqual(shape(both_bits), (["one", "other"], {}))
        self.assertEqual(shape(met_bits), (["one", "other"], {}))
        self.assertEqual(shape(bits_done), (["word", "one", "other"], wide))
        self.assertEqual(shape(bit_pair), (["word", "one", "other", "bit"], wide))

    def test_defined_in_the_file(self):
        for name in ("is_bits", "has_worth", "bits_within", "both_bits", "met_bits", "bits_done", "bit_pair"):
            self.assertEqual(getattr(module, name).__module__, "boundgate.bits")

    def test_by_names_and_width_by_name_alone(self):
        self.assertIs(is_bits(wide=2, thing=(1, 2)), True)
        self.assertIs(has_worth(worth=3, bits=(1, 2)), True)
        self.assertIs(bits_within(other=(1, 2), one=(3, 0)), True)
        self.assertEqual(both_bits(other=(1, 0), one=(3, 0)), (1, 2))
        self.assertEqual(met_bits(other=(1, 2), one=(3, 0)), (3, 0))
        self.assertEqual(bits_done(other=1, one=(1, 2), word="left", wide=2), (2, 0))
        self.assertEqual(bit_pair(bit=1, other=(0, 0), one=(1, 2), word="plus", wide=2), ((1, 0), (3, 0)))
        for action in (
            lambda: is_bits((0, 0), 4), lambda: bits_done("and", (0, 0), (0, 0), 4),
            lambda: bit_pair("and", (0, 1), (0, 1), 0, 4),
        ):
            with self.assertRaises(TypeError):
                action()


class SureBits(unittest.TestCase):
    def test_is_bits_of_small_widths(self):
        for wide in (1, 2, 3):
            top = 2 ** wide
            for value in range(-1, top + 2):
                for unsure in range(-1, top + 2):
                    wanted = (value, unsure) in all_bits(wide)
                    self.assertIs(is_bits((value, unsure), wide=wide), wanted, (value, unsure, wide))

    def test_is_bits_of_greater_widths(self):
        for wide in (16, 32):
            top = 2 ** wide - 1
            for bits in chosen_bits(wide):
                self.assertIs(is_bits(bits, wide=wide), True, bits)
            for pair in ((top, 1), (1, top), (top + 1, 0), (0, top + 1), (-1, 0), (0, -1), (10 ** 59, 0)):
                self.assertIs(is_bits(pair, wide=wide), False, pair)

    def test_the_width_left_out_is_wide(self):
        self.assertIs(is_bits((0, 65535)), True)
        self.assertIs(is_bits((0, 65536)), False)
        self.assertEqual(bits_done("plus", (65535, 0), (1, 0)), (0, 0))
        self.assertEqual(bits_done("left", (1, 2), 15), (32768, 0))
        self.assertEqual(bit_pair("plus", (0, 32768), (0, 0), 15), ((0, 0), (32768, 0)))
        with self.assertRaises(NoBit):
            bit_pair("plus", (0, 65535), (0, 0), 16)

    def test_what_is_no_sure_bits(self):
        wrong = odd_things() + [0, 5, "ab", (), (0,), (0, 0, 0), {0: 0, 1: 0}, ((0, 0),), [(0, 0)]]
        for thing in odd_things() + ["0", "ab", (0,), (0, 0), [0], -1]:
            wrong += [(thing, 0), (0, thing), (thing, thing)]
        for thing in wrong:
            for wide in (1, 16, 32):
                self.assertIs(is_bits(thing, wide=wide), False, repr(thing))
            self.assertIs(is_bits(thing), False, repr(thing))

    def test_has_worth(self):
        for wide in (1, 2, 3, 4):
            for bits in all_bits(wide):
                inside = held(bits, wide)
                for worth in range(2 ** wide):
                    self.assertIs(has_worth(bits, worth), worth in inside, (bits, worth))
        for wide in (WIDE, 32):
            top = 2 ** wide - 1
            for worth in (0, 1, top, top - 1, 2 ** (wide - 1)):
                self.assertIs(has_worth((0, top), worth), True)
                self.assertIs(has_worth((worth, 0), worth), True)
                self.assertIs(has_worth((worth, 0), worth ^ 1), False)
                self.assertIs(has_worth((worth & ~2, 2), worth ^ 2), True)
                self.assertIs(has_worth((worth & ~2, 2), worth ^ 2 ** (wide - 1)), False)

    def test_bits_within(self):
        for wide in (1, 2, 3):
            for one in all_bits(wide):
                for other in all_bits(wide):
                    wanted = set(held(one, wide)) <= set(held(other, wide))
                    self.assertIs(bits_within(one, other), wanted, (one, other))

    def test_bits_within_of_greater_widths(self):
        for wide in (WIDE, 32):
            for one, other in drawn_pairs(wide, 300):
                both = both_bits(one, other)
                self.assertIs(bits_within(one, both), True)
                self.assertIs(bits_within(other, both), True)
                self.assertIs(bits_within(both, one), both == one)
                met = met_bits(one, other)
                if met is not None:
                    self.assertIs(bits_within(met, one), True)
                    self.assertIs(bits_within(one, met), met == one)

    def test_both_bits(self):
        for wide in (1, 2, 3):
            for one in all_bits(wide):
                for other in all_bits(wide):
                    wanted = sharpest(held(one, wide) + held(other, wide), wide)
                    told = both_bits(one, other)
                    self.assertEqual(told, wanted, (one, other))
                    self.assertIs(is_bits(told, wide=wide), True)

    def test_both_bits_of_greater_widths(self):
        for wide in (WIDE, 32):
            for one, other in drawn_pairs(wide, 300):
                told = both_bits(one, other)
                self.assertIs(is_bits(told, wide=wide), True)
                for bit in range(wide):
                    may_be = set(places_of(one, bit)) | set(places_of(other, bit))
                    self.assertEqual(set(places_of(told, bit)), may_be)

    def test_met_bits(self):
        for wide in (1, 2, 3):
            for one in all_bits(wide):
                for other in all_bits(wide):
                    wanted = set(held(one, wide)) & set(held(other, wide))
                    told = met_bits(one, other)
                    if not wanted:
                        self.assertIsNone(told, (one, other))
                        continue
                    self.assertIs(is_bits(told, wide=wide), True)
                    self.assertEqual(set(held(told, wide)), wanted, (one, other))

    def test_met_bits_of_greater_widths(self):
        for wide in (WIDE, 32):
            for one, other in drawn_pairs(wide, 300):
                told = met_bits(one, other)
                for bit in range(wide):
                    shared = set(places_of(one, bit)) & set(places_of(other, bit))
                    if told is not None:
                        self.assertEqual(set(places_of(told, bit)), shared)
                    elif not shared:
                        break
                else:
                    self.assertIsNotNone(told)
        self.assertIsNone(met_bits((0, 65534), (1, 65534)))
        self.assertIsNone(met_bits((0, 2 ** 31 - 1), (2 ** 31, 2 ** 31 - 1)))
        self.assertEqual(met_bits((0, 65535), (5, 0)), (5, 0))


class BitsDone(Checks):
    def test_small_widths_by_all_worths(self):
        for wide in (1, 2, 3):
            for one in all_bits(wide):
                for other in all_bits(wide):
                    for word in TWOS:
                        came = [done(word, a, b, wide=wide) for a in held(one, wide) for b in held(other, wide)]
                        self.assertEqual(
                            bits_done(word, one, other, wide=wide), sharpest(came, wide), (word, one, other, wide))
                        self.check_pairs(word, one, other, wide)

    def test_width_four_and_five_bit_by_bit(self):
        for wide, step in ((4, 1), (5, 7)):
            for one in all_bits(wide)[::step]:
                for other in all_bits(wide)[::step]:
                    for word in TWOS:
                        wanted = plain_bits(word, one, other, wide)
                        self.assertEqual(bits_done(word, one, other, wide=wide), wanted, (word, one, other))
                        self.check_pairs(word, one, other, wide)

    def test_the_other_way_of_telling_is_right(self):
        for one in all_bits(3):
            for other in all_bits(3):
                for word in TWOS:
                    came = [done(word, a, b, wide=3) for a in held(one, 3) for b in held(other, 3)]
                    self.assertEqual(plain_bits(word, one, other, 3), sharpest(came, 3))

    def test_greater_widths(self):
        for wide in (1, 2, 8, WIDE, 31, 32):
            chosen = chosen_bits(wide)
            pairs = [(one, other) for one in chosen for other in chosen] + drawn_pairs(wide, 150)
            for one, other in pairs:
                for word in TWOS:
                    told = bits_done(word, one, other, wide=wide)
                    self.assertIs(is_bits(told, wide=wide), True, (word, one, other))
                    self.assertEqual(told, plain_bits(word, one, other, wide), (word, one, other, wide))
                    self.check_pairs(word, one, other, wide)

    def test_chosen(self):
        self.assertEqual(bits_done("plus", (0, 1), (1, 0)), (0, 3))
        self.assertEqual(bits_done("minus", (0, 0), (0, 1)), (0, 65535))
        self.assertEqual(bits_done("and", (0, 65535), (15, 0)), (0, 15))
        self.assertEqual(bits_done("or", (0, 65535), (15, 0)), (15, 65520))
        self.assertEqual(bits_done("either", (1, 2), (1, 4)), (0, 6))
        self.assertEqual(bits_done("left", (1, 2), 3), (8, 16))
        self.assertEqual(bits_done("right", (8, 16), 3), (1, 2))

    def test_moves_of_small_widths(self):
        for wide in (1, 2, 3, 4):
            for one in all_bits(wide):
                for places in range(wide + 3):
                    for word in MOVES:
                        came = [done(word, a, places, wide=wide) for a in held(one, wide)]
                        told = bits_done(word, one, places, wide=wide)
                        self.assertEqual(told, sharpest(came, wide), (word, one, places, wide))
                        self.check_pairs(word, one, places, wide)

    def test_moves_of_greater_widths(self):
        for wide in (WIDE, 32):
            for one, _ in drawn_pairs(wide, 60):
                for places in (0, 1, 2, wide // 2, wide - 1, wide, wide + 1):
                    left = bits_done("left", one, places, wide=wide)
                    right = bits_done("right", one, places, wide=wide)
                    for bit in range(wide):
                        below, above = bit - places, bit + places
                        self.assertEqual(places_of(left, bit), places_of(one, below) if below >= 0 else (0,))
                        self.assertEqual(places_of(right, bit), places_of(one, above) if above < wide else (0,))
                    self.assertIs(is_bits(left, wide=wide), True)
                    self.assertIs(is_bits(right, wide=wide), True)
                    self.check_pairs("left", one, places, wide)
                    self.check_pairs("right", one, places, wide)

    def test_moves_by_very_great_numbers(self):
        for wide in (1, WIDE, 32):
            top = 2 ** wide - 1
            for places in (wide, top + 1, 10 ** 9, 10 ** 18, 10 ** 60 - 1):
                for word in MOVES:
                    for one in ((0, top), (top, 0)):
                        self.assertEqual(bits_done(word, one, places, wide=wide), (0, 0))
                        with self.assertRaises(NoBit):
                            bit_pair(word, one, places, 0, wide=wide)

    def test_no_answer_is_dear(self):
        top = 2 ** 32 - 1
        all_unsure = (0, top)
        actions = [
            lambda: is_bits(all_unsure, wide=32), lambda: has_worth(all_unsure, top),
            lambda: bits_within(all_unsure, all_unsure), lambda: both_bits(all_unsure, all_unsure),
            lambda: met_bits(all_unsure, all_unsure),
        ]
        for word in TWOS:
            actions.append(lambda word=word: bits_done(word, all_unsure, all_unsure, wide=32))
            actions.append(lambda word=word: bit_pair(word, all_unsure, all_unsure, 31, wide=32))
        for word in MOVES:
            actions.append(lambda word=word: bits_done(word, all_unsure, 10 ** 59, wide=32))
            actions.append(lambda word=word: bits_done(word, all_unsure, top, wide=32))
            actions.append(lambda word=word: bit_pair(word, all_unsure, 7, 20, wide=32))
        for number, action in enumerate(actions):
            lines, room = cost(action)
            self.assertLess(lines, 2000, number)
            self.assertLess(room, 100000, number)


class Refusals(Checks):
    def test_what_is_no_unsure_bit(self):
        no_bits = odd_things() + ["0", "plus", (0,), (0, 0), -1, -16, 16, 17, 32, 10 ** 59, -(10 ** 59)]
        for word in TWOS + MOVES:
            other = 0 if word in MOVES else (0, 65535)
            for bit in no_bits:
                with self.assertRaises(NoBit) as caught:
                    bit_pair(word, (0, 65535), other, bit)
                self.assertIs(type(caught.exception), NoBit)
        for wide in (1, 5, 32):
            for bit in (wide, -1, True, False, 0.0):
                with self.assertRaises(NoBit):
                    bit_pair("or", (0, 2 ** wide - 1), (0, 0), bit, wide=wide)

    def test_a_sure_bit_is_refused(self):
        for bit in range(16):
            for word in TWOS:
                with self.assertRaises(NoBit):
                    bit_pair(word, (5, 0), (9, 0), bit)
            with self.assertRaises(NoBit):
                bit_pair("left", (5, 0), 2, bit)
        for bit in range(8):
            with self.assertRaises(NoBit):
                bit_pair("and", (0, 65535), (0, 65280), bit)
            self.check_pair("and", (0, 65535), (0, 65280), bit + 8, 16)

    def test_no_word(self):
        for word in list(NO_WORDS) + odd_things() + list(ASKS):
            with self.assertRaises(NoWord) as caught:
                bits_done(word, (0, 3), (0, 3))
            self.assertIs(type(caught.exception), NoWord)
            with self.assertRaises(NoWord):
                bits_done(word, (0, 3), 1)
            with self.assertRaises(NoWord):
                bit_pair(word, (0, 3), (0, 3), 0)

    def test_no_word_goes_ahead_of_no_bit(self):
        for word in list(NO_WORDS) + odd_things():
            for bit in (16, -1, None, True, "0", []):
                with self.assertRaises(NoWord):
                    bit_pair(word, (0, 3), (0, 3), bit)
                with self.assertRaises(NoWord):
                    bit_pair(word, (0, 3), 1, bit)

    def test_what_is_handed_in_stays_as_it_is(self):
        for thing in ([0, 0], [[0], {}], {"left": [0]}, ([0], 0), (0, {1: [2]})):
            ahead = copy.deepcopy(thing)
            self.assertIs(is_bits(thing), False)
            with self.assertRaises(NoWord):
                bits_done(thing, (0, 1), (0, 1))
            with self.assertRaises(NoBit):
                bit_pair("or", (0, 1), (0, 1), thing)
            self.assertEqual(thing, ahead)

    def test_asked_twice_alike_is_told_alike(self):
        for one, other in drawn_pairs(WIDE, 20):
            for word in TWOS:
                unsure = bits_done(word, one, other)[1]
                self.assertEqual(bits_done(word, one, other), bits_done(word, one, other))
                for bit in range(WIDE):
                    if bit_of(unsure, bit):
                        self.assertEqual(bit_pair(word, one, other, bit), bit_pair(word, one, other, bit))


if __name__ == "__main__":
    unittest.main()
