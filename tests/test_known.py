"""Point [8], with the interface's "boundgate/known.py"."""

import copy
import itertools
import random
import unittest

from boundgate import known as module
from boundgate.known import all_of, holds, is_known, just, lies_within, settled, span
from boundgate.worths import WIDE
from tests.things import (
    all_known, any_six, cost, drawn_known, held_by, odd_things, plain_settled, shape, with_sign,
)

NAMES = ("is_known", "holds", "lies_within", "settled", "all_of", "just", "span")


def bounds(wide):
    return 2 ** wide - 1, 2 ** (wide - 1)


class Interface(unittest.TestCase):
    def test_arguments_by_place_and_by_name(self):
        wide = {"wide": 16}
        self.assertEqual(shape(is_known), (["thing"], wide))
        self.assertEqual(shape(holds), (["known", "worth"], wide))
        self.assertEqual(shape(lies_within), (["one", "other"], {}))
        self.assertEqual(shape(settled), (["known"], wide))
        self.assertEqual(shape(all_of), ([], wide))
        self.assertEqual(shape(just), (["worth"], wide))
        self.assertEqual(shape(span), (["least", "most"], wide))

    def test_defined_in_the_file(self):
        for name in NAMES:
            self.assertEqual(getattr(module, name).__module__, "boundgate.known")

    def test_by_names(self):
        known = (1, 2, 1, 3, -2, 1)
        self.assertIs(is_known(wide=2, thing=known), True)
        self.assertIs(holds(worth=1, known=known, wide=2), True)
        self.assertIs(lies_within(other=known, one=known), True)
        self.assertEqual(settled(wide=2, known=known), known)
        self.assertEqual(just(wide=2, worth=3), (3, 0, 3, 3, -1, -1))
        self.assertEqual(span(most=1, least=0, wide=2), (0, 1, 0, 1, 0, 1))

    def test_the_width_by_name_alone(self):
        for action in (
            lambda: is_known((0, 0, 0, 0, 0, 0), 4), lambda: holds((0, 0, 0, 0, 0, 0), 0, 4),
            lambda: settled((0, 0, 0, 0, 0, 0), 4), lambda: all_of(4), lambda: just(0, 4), lambda: span(0, 0, 4),
        ):
            with self.assertRaises(TypeError):
                action()


class IsKnown(unittest.TestCase):
    def test_all_of_width_one_and_somewhat_beyond(self):
        right = set(all_known(1))
        self.assertEqual(len(right), 27)
        for six in itertools.product(range(-2, 4), repeat=6):
            self.assertIs(is_known(six, wide=1), six in right, six)

    def test_width_two_and_three(self):
        for wide, step in ((2, 1), (3, 17)):
            right = set(all_known(wide))
            for six in any_six(wide)[::step]:
                self.assertIs(is_known(six, wide=wide), six in right, six)

    def test_parts_beyond_the_width(self):
        for wide in range(1, 33):
            top, half = bounds(wide)
            fine = (0, top, 0, top, -half, half - 1)
            self.assertIs(is_known(fine, wide=wide), True, wide)
            beyond = ((-1, top + 1),) * 4 + ((-half - 1, half),) * 2
            for place, numbers in enumerate(beyond):
                for number in numbers + (10 ** 59, -(10 ** 59)):
                    turned = fine[:place] + (number,) + fine[place + 1:]
                    self.assertIs(is_known(turned, wide=wide), False, (wide, turned))
            self.assertIs(is_known((1, 1, 0, top, -half, half - 1), wide=wide), False)
            self.assertIs(is_known((0, top, 1, 0, -half, half - 1), wide=wide), False)
            self.assertIs(is_known((0, top, 0, top, 0, -1), wide=wide), False)
            self.assertIs(is_known((0, top, 1, 1, -1, -1), wide=wide), True)

    def test_one_that_holds_nothing_is_one(self):
        self.assertIs(is_known((0, 0, 5, 9, -3, -1)), True)

    def test_the_width_left_out_is_wide(self):
        self.assertIs(is_known((0, 65535, 0, 65535, -32768, 32767)), True)
        self.assertIs(is_known((0, 65536, 0, 65535, -32768, 32767)), False)
        self.assertIs(is_known((0, 65535, 0, 65536, -32768, 32767)), False)
        self.assertIs(is_known((0, 65535, 0, 65535, -32769, 32767)), False)
        self.assertIs(is_known((0, 65535, 0, 65535, -32768, 32768)), False)

    def test_other_kinds(self):
        fine = (0, 1, 0, 1, 0, 1)
        wrong = odd_things() + [0, 7, "known", "012345", (), fine[:5], fine + (0,), [*fine], dict(enumerate(fine))]
        wrong += [(fine,), ((0, 1), (0, 1), (0, 1)), [fine], (fine,) * 6]
        for thing in odd_things() + ["0", "1", (0,), [1], fine]:
            wrong += [fine[:place] + (thing,) + fine[place + 1:] for place in range(6)]
        for thing in wrong:
            self.assertIs(is_known(thing), False, repr(thing))
            for wide in (1, 2, 16, 32):
                self.assertIs(is_known(thing, wide=wide), False, repr(thing))


class Holds(unittest.TestCase):
    def test_small_widths(self):
        for wide, step in ((1, 1), (2, 1), (3, 23)):
            for known in all_known(wide)[::step]:
                inside = held_by(known, wide)
                for worth in range(2 ** wide):
                    self.assertIs(holds(known, worth, wide=wide), worth in inside, (known, worth))

    def test_each_part_counts(self):
        everything = (0, 65535, 0, 65535, -32768, 32767)
        self.assertIs(holds(everything, 40000), True)
        self.assertIs(holds((0, 65534, 0, 65535, -32768, 32767), 5), False)
        self.assertIs(holds((1, 65534, 0, 65535, -32768, 32767), 5), True)
        self.assertIs(holds((0, 65535, 6, 65535, -32768, 32767), 5), False)
        self.assertIs(holds((0, 65535, 5, 65535, -32768, 32767), 5), True)
        self.assertIs(holds((0, 65535, 0, 4, -32768, 32767), 5), False)
        self.assertIs(holds((0, 65535, 0, 5, -32768, 32767), 5), True)
        self.assertIs(holds((0, 65535, 0, 65535, 6, 32767), 5), False)
        self.assertIs(holds((0, 65535, 0, 65535, -32768, -1), 5), False)
        self.assertIs(holds((0, 65535, 0, 65535, -2, -1), 65534), True)
        self.assertIs(holds((0, 65535, 0, 65535, -1, -1), 65534), False)

    def test_the_sign_hangs_on_the_width(self):
        known = (0, 15, 0, 15, -8, -1)
        self.assertIs(holds(known, 15, wide=4), True)
        self.assertIs(holds((0, 15, 0, 15, 0, 15), 15), True)
        self.assertIs(holds((0, 2 ** 32 - 1, 0, 2 ** 32 - 1, -1, -1), 2 ** 32 - 1, wide=32), True)


class LiesWithin(unittest.TestCase):
    def wanted(self, one, other, wide):
        bits = set(held_by(one[:2] + (0, 2 ** wide, -(2 ** wide), 2 ** wide), wide))
        other_bits = set(held_by(other[:2] + (0, 2 ** wide, -(2 ** wide), 2 ** wide), wide))
        ends = set(range(one[2], one[3] + 1)) <= set(range(other[2], other[3] + 1))
        signs = set(range(one[4], one[5] + 1)) <= set(range(other[4], other[5] + 1))
        return bits <= other_bits and ends and signs

    def test_small_widths(self):
        for wide, step in ((1, 1), (2, 7), (3, 331)):
            numbers = all_known(wide)[::step]
            for one in numbers:
                for other in numbers:
                    self.assertIs(lies_within(one, other), self.wanted(one, other, wide), (one, other))

    def test_it_is_told_by_the_parts_and_not_by_what_is_held(self):
        loose = (5, 0, 0, 65535, -32768, 32767)
        self.assertIs(lies_within(just(5), loose), True)
        self.assertIs(lies_within(loose, just(5)), False)

    def test_greater_widths(self):
        source = random.Random(8)
        for wide in (16, 32):
            for _ in range(200):
                one, other = drawn_known(source, wide), drawn_known(source, wide)
                self.assertIs(lies_within(one, one), True)
                self.assertIs(lies_within(one, all_of(wide=wide)), True)
                for worth in (one[2], one[3]):
                    if holds(one, worth, wide=wide):
                        self.assertIs(lies_within(just(worth, wide=wide), one), True)
                        self.assertIs(lies_within(one, just(worth, wide=wide)), one == just(worth, wide=wide))
                if lies_within(one, other) and lies_within(other, one):
                    self.assertEqual(one, other)


class Settled(unittest.TestCase):
    def check(self, six, wide, source):
        told = settled(six, wide=wide)
        self.assertEqual(told, plain_settled(six, wide, source), (six, wide))
        if told is None:
            return
        self.assertIs(type(told), tuple)
        self.assertIs(is_known(told, wide=wide), True, (six, told))
        self.assertEqual(settled(told, wide=wide), told)
        self.assertIs(lies_within(told, six), True)

    def test_all_six_numbers_of_small_widths(self):
        source = random.Random(80)
        for wide, step in ((1, 1), (2, 1), (3, 13)):
            for six in any_six(wide)[::step]:
                self.check(six, wide, source)
                told = settled(six, wide=wide)
                inside = held_by(six, wide)
                if told is None:
                    self.assertEqual(inside, [], six)
                else:
                    self.assertEqual(held_by(told, wide), inside, (six, told))

    def test_greater_widths(self):
        source = random.Random(81)
        for wide in (1, 2, 4, 5, 8, 15, 16, 17, 31, 32):
            top, half = bounds(wide)
            for _ in range(250):
                unsure = source.choice((top, source.getrandbits(wide), 2 ** source.randrange(wide + 1) - 1))
                value = source.getrandbits(wide) & ~unsure
                ends = [source.choice((0, top, value, value + unsure, half, half - 1, source.getrandbits(wide)))
                        for _ in "ab"]
                signs = [source.choice((-half, half - 1, 0, -1, source.randrange(-half, half))) for _ in "ab"]
                self.check((value, unsure, *ends, *signs), wide, source)
                self.check((value, unsure, *sorted(ends), *sorted(signs)), wide, source)

    def test_none_where_nothing_can_be_held(self):
        self.assertIsNone(settled((0, 65535, 2, 1, -32768, 32767)))
        self.assertIsNone(settled((0, 65535, 0, 65535, 1, 0)))
        self.assertIsNone(settled((0, 65535, 65535, 0, 32767, -32768)))
        self.assertIsNone(settled((8, 0, 0, 7, -32768, 32767)))
        self.assertIsNone(settled((0, 3, 4, 9, -32768, 32767)))
        self.assertIsNone(settled((0, 65535, 0, 9, -5, -1)))
        self.assertIsNone(settled((0, 65535, 40000, 50000, 0, 9)))
        self.assertIsNone(settled((4, 3, 8, 11, -8, 7), wide=4))

    def test_not_none_where_the_rules_do_not_tell_it(self):
        # From 1 to 2 by worths, and from -1 to 0 with sign: nothing is both, but the rules can't tell.
        for six, wide in (((0, 3, 1, 2, -1, 0), 2), ((0, 2, 1, 2, -1, 1), 2), ((0, 4, 1, 4, -3, 0), 3)):
            self.assertEqual(held_by(six, wide), [])
            self.assertEqual(settled(six, wide=wide), six)

    def test_each_rule(self):
        low, high = -32768, 32767
        self.assertEqual(settled((4, 3, 0, 65535, low, high)), (4, 3, 4, 7, 4, 7))
        self.assertEqual(settled((0, 65535, 5, 9, low, high)), (0, 15, 5, 9, 5, 9))
        self.assertEqual(settled((0, 65535, 40000, 40001, low, high)), (40000, 1, 40000, 40001, -25536, -25535))
        self.assertEqual(settled((0, 65535, 0, 65535, -2, -1)), (65534, 1, 65534, 65535, -2, -1))
        self.assertEqual(settled((0, 65535, 0, 65535, 3, 4)), (0, 7, 3, 4, 3, 4))
        self.assertEqual(settled((0, 65535, 0, 65535, -3, 4)), (0, 65535, 0, 65535, -3, 4))
        self.assertEqual(settled((0, 65535, 7, 65530, low, high)), (0, 65535, 7, 65530, low, high))
        self.assertEqual(settled((0, 65535, 32767, 32768, low, high)), (0, 65535, 32767, 32768, low, high))
        self.assertEqual(settled((0, 65535, 6, 6, low, high)), just(6))

    def test_again_and_again(self):
        # The signs cut the ends, these make bits sure, these cut the ends, and so the signs.
        self.assertEqual(settled((1, 65534, 0, 65535, 2, 4)), (1, 6, 2, 4, 2, 4))
        self.assertEqual(settled((1, 32774, 0, 65535, 2, 40)), (1, 6, 2, 7, 2, 7))

    def test_no_answer_is_dear(self):
        top, half = bounds(32)
        for action in (
            lambda: settled((0, top, 1, top, -half, half - 1), wide=32),
            lambda: settled((1, top - 1, 0, top, 2, half - 2), wide=32),
            lambda: is_known((0, top, 1, top, -half, half - 1), wide=32),
            lambda: holds(all_of(wide=32), top, wide=32), lambda: span(1, top, wide=32),
        ):
            lines, room = cost(action)
            self.assertLess(lines, 4000)
            self.assertLess(room, 100000)


class Made(unittest.TestCase):
    def test_all_of(self):
        for wide in range(1, 33):
            top, half = bounds(wide)
            told = all_of(wide=wide)
            self.assertEqual(told, (0, top, 0, top, -half, half - 1))
            self.assertEqual(settled(told, wide=wide), told)
        self.assertEqual(all_of(), (0, 65535, 0, 65535, -32768, 32767))

    def test_just(self):
        for wide in range(1, 33):
            top, half = bounds(wide)
            for worth in {0, 1, half - 1, half, top - 1, top}:
                if worth < 0:
                    continue
                sign = with_sign(worth, wide)
                told = just(worth, wide=wide)
                self.assertEqual(told, (worth, 0, worth, worth, sign, sign))
                self.assertEqual(settled(told, wide=wide), told)
                self.assertIs(is_known(told, wide=wide), True)
        self.assertEqual(just(65535), (65535, 0, 65535, 65535, -1, -1))
        self.assertEqual(just(32767), (32767, 0, 32767, 32767, 32767, 32767))

    def test_span(self):
        for wide in (1, 2, 3, 4):
            top, half = bounds(wide)
            for least in range(top + 1):
                for most in range(least, top + 1):
                    told = span(least, most, wide=wide)
                    self.assertEqual(told, plain_settled((0, top, least, most, -half, half - 1), wide))
                    self.assertEqual(held_by(told, wide), list(range(least, most + 1)))
        for wide in (16, 32):
            top, half = bounds(wide)
            for least, most in ((0, top), (0, 0), (top, top), (half - 1, half), (3, 12), (half, top), (0, half - 1)):
                told = span(least, most, wide=wide)
                self.assertEqual(told, plain_settled((0, top, least, most, -half, half - 1), wide))
        self.assertEqual(span(0, 16), (0, 31, 0, 16, 0, 16))
        self.assertEqual(span(7, 7), just(7))
        self.assertEqual(span(0, 65535), all_of())
        self.assertEqual(span(0, 2 ** 32 - 1, wide=32), all_of(wide=32))


class Promises(unittest.TestCase):
    def test_what_is_handed_in_stays_as_it_is(self):
        for thing in ([0, 1, 0, 1, 0, 1], {"known": [0]}, ([0], 1, 0, 1, 0, 1), (0, 1, 0, 1, 0, [{}])):
            ahead = copy.deepcopy(thing)
            self.assertIs(is_known(thing), False)
            self.assertEqual(thing, ahead)

    def test_asked_twice_alike_is_told_alike(self):
        source = random.Random(9)
        for _ in range(50):
            known = drawn_known(source, WIDE)
            self.assertEqual(settled(known), settled(known))
            self.assertEqual(settled(known), known)


if __name__ == "__main__":
    unittest.main()
