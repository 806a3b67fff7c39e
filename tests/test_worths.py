"""Points [4] and [5], with the interface's "boundgate/worths.py"."""

import copy
import unittest

from boundgate import worths
from boundgate.errors import NoWord
from boundgate.worths import ASKS, DEEDS, WIDE, asked, contrary, done, is_whole, is_worth, signed
from tests.things import cost, odd_things, shape


def edges(wide):
    """Nought, one, the greatest worth, those about the half, and a few between."""
    top = 1 << wide
    half = top // 2
    picked = {0, 1, 2, 3, wide - 1, wide, wide + 1, top // 3, top - 2, top - 1, half - 1, half, half + 1}
    return sorted(worth for worth in picked if 0 <= worth < top)


def plain_done(word, one, other, wide):
    """What a deed comes to, told in another way than the program does."""
    top = 2 ** wide
    if word == "plus":
        return (one + other) % top
    if word == "minus":
        return (one + top - other) % top
    if word == "times":
        return one * other % top
    if word == "left":
        return one * 2 ** other % top if other < wide else 0
    if word == "right":
        return one // 2 ** other if other < wide else 0
    wanted = {"and": (2,), "or": (1, 2), "either": (1,)}[word]
    came = 0
    for place in range(wide):
        if (one // 2 ** place % 2) + (other // 2 ** place % 2) in wanted:
            came += 2 ** place
    return came


def plain_signed(worth, wide):
    return worth if worth < 2 ** (wide - 1) else worth - 2 ** wide


def plain_asked(word, one, other, wide):
    """What an ask is answered, told in another way than the program does."""
    with_sign = plain_signed(one, wide), plain_signed(other, wide)
    shared = plain_done("and", one, other, wide)
    return {
        "same": one - other == 0,
        "unlike": one - other != 0,
        "under": other - one > 0,
        "from": one - other >= 0,
        "upto": other - one >= 0,
        "over": one - other > 0,
        "below": with_sign[1] - with_sign[0] > 0,
        "notbelow": with_sign[0] - with_sign[1] >= 0,
        "least": with_sign[1] - with_sign[0] >= 0,
        "above": with_sign[0] - with_sign[1] > 0,
        "bits": shared > 0,
        "nobits": shared == 0,
    }[word]


class Interface(unittest.TestCase):
    def test_arguments_by_place_and_by_name(self):
        wide = {"wide": 16}
        self.assertEqual(shape(is_whole), (["thing"], {}))
        self.assertEqual(shape(is_worth), (["thing"], wide))
        self.assertEqual(shape(signed), (["worth"], wide))
        self.assertEqual(shape(done), (["word", "one", "other"], wide))
        self.assertEqual(shape(asked), (["word", "one", "other"], wide))
        self.assertEqual(shape(contrary), (["word"], {}))

    def test_defined_in_the_file(self):
        for name in ("is_whole", "is_worth", "signed", "done", "asked", "contrary"):
            self.assertEqual(getattr(worths, name).__module__, "boundgate.worths")

    def test_by_names_and_width_by_name_alone(self):
        self.assertTrue(is_whole(thing=4))
        self.assertFalse(is_worth(wide=2, thing=4))
        self.assertEqual(signed(worth=3, wide=2), -1)
        self.assertEqual(done(other=3, one=1, word="minus", wide=4), 14)
        self.assertIs(asked(other=3, one=1, word="under"), True)
        self.assertEqual(contrary(word="same"), "unlike")
        for action in (
            lambda: is_worth(4, 2), lambda: signed(3, 2),
            lambda: done("plus", 1, 2, 4), lambda: asked("same", 1, 2, 4),
        ):
            with self.assertRaises(TypeError):
                action()

    def test_constants(self):
        self.assertEqual(WIDE, 16)
        self.assertIs(type(WIDE), int)
        self.assertEqual(DEEDS, ("plus", "minus", "times", "and", "or", "either", "left", "right"))
        self.assertEqual(ASKS, (
            "same", "under", "upto", "below", "least", "bits",
            "unlike", "over", "from", "above", "notbelow", "nobits",
        ))


class Worths(unittest.TestCase):
    def test_whole_numbers(self):
        for number in (0, 1, -1, 65535, 65536, 10 ** 60 - 1, -(10 ** 59)):
            self.assertIs(is_whole(number), True, number)

    def test_what_is_no_whole_number(self):
        for thing in odd_things() + ["1", "plus", (1,), (0, 0)]:
            self.assertIs(is_whole(thing), False, type(thing))

    def test_worths_of_each_width(self):
        for wide in range(1, 33):
            top = 2 ** wide
            for worth in edges(wide):
                self.assertIs(is_worth(worth, wide=wide), True, (worth, wide))
            for number in (-1, top, top + 1, -top, 2 * top, 10 ** 59, -(10 ** 59)):
                self.assertIs(is_worth(number, wide=wide), False, (number, wide))

    def test_the_width_left_out_is_wide(self):
        self.assertIs(is_worth(65535), True)
        self.assertIs(is_worth(65536), False)
        self.assertEqual(signed(65535), -1)
        self.assertEqual(signed(32767), 32767)
        self.assertEqual(signed(32768), -32768)
        self.assertEqual(done("plus", 65535, 2), 1)
        self.assertEqual(done("left", 3, 15), 32768)
        self.assertEqual(done("left", 3, 16), 0)
        self.assertIs(asked("below", 32768, 32767), True)

    def test_what_is_no_worth(self):
        for thing in odd_things() + ["1", "plus", (1,), (0, 0)]:
            for wide in (1, 16, 32):
                self.assertIs(is_worth(thing, wide=wide), False, type(thing))
            self.assertIs(is_worth(thing), False, type(thing))

    def test_signed(self):
        for wide in range(1, 33):
            for worth in edges(wide):
                self.assertEqual(signed(worth, wide=wide), plain_signed(worth, wide), (worth, wide))
        self.assertEqual([signed(worth, wide=1) for worth in (0, 1)], [0, -1])
        self.assertEqual([signed(worth, wide=3) for worth in range(8)], [0, 1, 2, 3, -4, -3, -2, -1])
        self.assertEqual(signed(2 ** 32 - 1, wide=32), -1)
        self.assertEqual(signed(2 ** 31, wide=32), -(2 ** 31))
        self.assertEqual(signed(2 ** 31 - 1, wide=32), 2 ** 31 - 1)


class Deeds(unittest.TestCase):
    def test_all_pairs_of_small_widths(self):
        for wide in (1, 2, 3, 4):
            for one in range(2 ** wide):
                for other in range(2 ** wide):
                    for word in DEEDS:
                        self.assertEqual(
                            done(word, one, other, wide=wide), plain_done(word, one, other, wide),
                            (word, one, other, wide))

    def test_edges_of_greater_widths(self):
        for wide in (5, 8, 16, 31, 32):
            for one in edges(wide):
                for other in edges(wide):
                    for word in DEEDS:
                        came = done(word, one, other, wide=wide)
                        self.assertEqual(came, plain_done(word, one, other, wide), (word, one, other, wide))
                        self.assertIs(is_worth(came, wide=wide), True)

    def test_chosen(self):
        self.assertEqual(done("plus", 65535, 1), 0)
        self.assertEqual(done("minus", 0, 1), 65535)
        self.assertEqual(done("times", 256, 256), 0)
        self.assertEqual(done("times", 65535, 65535), 1)
        self.assertEqual(done("and", 12, 10), 8)
        self.assertEqual(done("or", 12, 10), 14)
        self.assertEqual(done("either", 12, 10), 6)
        self.assertEqual(done("left", 32769, 1), 2)
        self.assertEqual(done("right", 32769, 1), 16384)

    def test_moves_by_the_width_by_one_fewer_and_by_more(self):
        for wide in (1, 2, 16, 32):
            top = 2 ** wide - 1
            self.assertEqual(done("left", top, wide - 1, wide=wide), 2 ** (wide - 1))
            self.assertEqual(done("right", top, wide - 1, wide=wide), 1)
            self.assertEqual(done("left", top, 0, wide=wide), top)
            self.assertEqual(done("right", top, 0, wide=wide), top)
            for places in (wide, wide + 1, 2 * wide, top):
                if wide <= places <= top:
                    self.assertEqual(done("left", top, places, wide=wide), 0)
                    self.assertEqual(done("right", top, places, wide=wide), 0)

    def test_moves_by_very_great_numbers_are_cheap(self):
        top = 2 ** 32 - 1
        for word in ("left", "right"):
            lines, room = cost(lambda: self.assertEqual(done(word, top, top, wide=32), 0))
            self.assertLess(lines, 200)
            self.assertLess(room, 100000)

    def test_no_answer_is_dear(self):
        top = 2 ** 32 - 1
        for one, other in ((top, top), (top, 31), (2 ** 31, top - 1), (0, top)):
            for word in DEEDS:
                lines, room = cost(lambda: done(word, one, other, wide=32))
                self.assertLess(lines, 200, word)
                self.assertLess(room, 100000, word)
            for word in ASKS:
                lines, room = cost(lambda: asked(word, one, other, wide=32))
                self.assertLess(lines, 200, word)
                self.assertLess(room, 100000, word)


class Asks(unittest.TestCase):
    def test_all_pairs_of_small_widths(self):
        for wide in (1, 2, 3, 4):
            for one in range(2 ** wide):
                for other in range(2 ** wide):
                    for word in ASKS:
                        self.assertIs(
                            asked(word, one, other, wide=wide), plain_asked(word, one, other, wide),
                            (word, one, other, wide))

    def test_edges_of_greater_widths(self):
        for wide in (5, 8, 16, 31, 32):
            for one in edges(wide):
                for other in edges(wide):
                    for word in ASKS:
                        self.assertIs(
                            asked(word, one, other, wide=wide), plain_asked(word, one, other, wide),
                            (word, one, other, wide))

    def test_contraries(self):
        pairs = (
            ("same", "unlike"), ("over", "upto"), ("from", "under"),
            ("above", "least"), ("notbelow", "below"), ("nobits", "bits"),
        )
        for one, other in pairs:
            self.assertEqual(contrary(one), other)
            self.assertEqual(contrary(other), one)
        self.assertEqual(sorted(word for pair in pairs for word in pair), sorted(ASKS))

    def test_a_contrary_is_answered_otherwise(self):
        for word in ASKS:
            for one in edges(16):
                for other in edges(16):
                    self.assertIs(asked(contrary(word), one, other), not asked(word, one, other))


class NoWords(unittest.TestCase):
    def odd_words(self):
        return odd_things() + [
            "Plus", "plus ", " same", "SAME", "sum", "xor", "not", "plussame", "p", "\n",
            ("plus",), ("same",), 0, 1, 7, ["same"], {"same": "unlike"},
        ]

    def refused(self, action):
        with self.assertRaises(NoWord) as caught:
            action()
        self.assertIs(type(caught.exception), NoWord)

    def test_no_deed(self):
        for word in self.odd_words() + list(ASKS):
            self.refused(lambda: done(word, 1, 2))
            self.refused(lambda: done(word, 1, 1, wide=1))

    def test_no_ask(self):
        for word in self.odd_words() + list(DEEDS):
            self.refused(lambda: asked(word, 1, 2))
            self.refused(lambda: asked(word, 1, 1, wide=1))

    def test_no_contrary(self):
        for word in self.odd_words() + list(DEEDS):
            self.refused(lambda: contrary(word))

    def test_what_is_handed_in_stays_as_it_is(self):
        for thing in ([], ["plus"], {"plus": [1]}, [["same"], {}]):
            ahead = copy.deepcopy(thing)
            self.refused(lambda: done(thing, 1, 2))
            self.refused(lambda: asked(thing, 1, 2))
            self.refused(lambda: contrary(thing))
            self.assertIs(is_whole(thing), False)
            self.assertIs(is_worth(thing), False)
            self.assertEqual(thing, ahead)


if __name__ == "__main__":
    unittest.main()
