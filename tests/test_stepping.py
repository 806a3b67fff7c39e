"""Points [20] and [21], with the interface's "boundgate/stepping.py"."""

import copy
import random
import unittest

from boundgate import stepping as module
from boundgate.contracts import call_of
from boundgate.known import all_of, just, settled, span
from boundgate.reckon import known_done, sharpened
from boundgate.runner import Runner
from boundgate.states import first_state, is_state, state_holds, state_within
from boundgate.stepping import comes
from boundgate.worths import ASKS, DEEDS
from tests.drawn import drawn_program, fitting_row
from tests.drawn_states import drawn_state, lesser_state, right_state, state_of, turned
from tests.plain import CALLS, CONTRACT, SHELVES, long_program
from tests.plain_steps import plain_comes
from tests.tame import spoiled_program, tame_program
from tests.things import shape

UNSET = ("unset",)
LENGTH = ("length",)
ALL = ("number", all_of())
NOUGHT = ("number", just(0))
ROOMS = ((0, "rooms", True), (1, "rooms", False), (3, "halls", True))
# Settled, and yet it holds nothing: its bits tell 1 or 9, its ends 2 to 8. Six more is known to be nothing.
EMPTY = (1, 8, 2, 8, 2, 8)
ORDERS = ("under", "over", "below", "above", "from", "upto", "notbelow", "least")


def number(known):
    return ("number", known)


def worth(told):
    return ("worth", told)


def box(which):
    return ("box", which)


def one_of_each():
    """A thing of each kind by ROOMS, but the unset one."""
    return [
        NOUGHT, number(span(3, 9)), LENGTH, ("pile", just(2)), ("input", just(0)), ("room", 0, just(0)),
        ("room", 3, just(1)), ("maybe", 1),
    ]


class Checks(unittest.TestCase):
    def comes(self, row, state):
        """What comes of a state at row 1 of 3 rows; it is a state, and told alike by the second telling."""
        program = [("end",), row, ("end",)]
        self.assertIs(is_state(CONTRACT, state), True, state)
        came = comes(program, CONTRACT, 1, state)
        self.assertEqual(came, plain_comes(program, CONTRACT, 1, state), (row, state))
        if not isinstance(came, str):
            for _, after in came:
                self.assertIs(is_state(CONTRACT, after), True, (row, state, after))
        return came

    def next_is(self, row, state, after):
        self.assertEqual(self.comes(row, state), [(2, after)], row)

    def word_is(self, row, state, word):
        self.assertEqual(self.comes(row, state), word, (row, state))


class Interface(Checks):
    def test_arguments_by_place_and_by_name(self):
        self.assertEqual(shape(comes), (["program", "contract", "row", "state"], {}))
        self.assertEqual(comes.__module__, "boundgate.stepping")
        self.assertEqual(module.comes, comes)
        came = comes(state=first_state(), row=0, contract=CONTRACT, program=[("go", 0)])
        self.assertEqual(came, [(0, first_state())])
        self.assertEqual(comes([("go", 0)], CONTRACT, 0, first_state()), came)

    def test_what_is_told_is_the_askers_own(self):
        program = [("jump", "same", 2, worth(3), 0), ("end",)]
        first = comes(program, CONTRACT, 0, first_state())
        kept = copy.deepcopy(first)
        first.clear()
        self.assertEqual(comes(program, CONTRACT, 0, first_state()), kept)
        self.assertEqual(program, [("jump", "same", 2, worth(3), 0), ("end",)])

    def test_kinds_of_what_is_told(self):
        self.assertIs(type(comes([("end",)], CONTRACT, 0, first_state())), str)
        came = comes([("go", 0)], CONTRACT, 0, first_state())
        self.assertEqual([type(came), type(came[0]), type(came[0][0])], [list, tuple, int])


class SetMoveGo(Checks):
    def test_set(self):
        ahead = state_of(one_of_each()[:6], asks=ROOMS)
        for place in range(6):
            self.next_is(("set", place, 65535), ahead, turned(ahead, 0, turned(ahead[0], place, number(just(65535)))))

    def test_move(self):
        for thing in one_of_each():
            ahead = state_of([thing, NOUGHT], asks=ROOMS)
            self.next_is(("move", 5, 0), ahead, state_of([thing, NOUGHT, UNSET, UNSET, UNSET, thing], asks=ROOMS))
            self.next_is(("move", 1, 0), ahead, state_of([thing, thing], asks=ROOMS))
            self.next_is(("move", 0, 0), ahead, ahead)
            self.word_is(("move", 0, 5), ahead, "unset")

    def test_go(self):
        for to in range(3):
            self.assertEqual(self.comes(("go", to), first_state()), [(to, first_state())])


class Do(Checks):
    def test_numbers(self):
        knowns = [just(0), just(65535), all_of(), span(3, 9), settled((0, 65535, 0, 65535, -4, 6))]
        for word in DEEDS:
            for one in knowns:
                for other in knowns:
                    ahead = state_of([number(one), number(other)])
                    wanted = number(known_done(word, one, other))
                    self.next_is(("do", word, 0, box(1)), ahead, state_of([wanted, number(other)]))
                    if other[1] == 0:
                        self.next_is(("do", word, 0, worth(other[0])), ahead, state_of([wanted, number(other)]))

    def test_length_is_a_number(self):
        length = span(2, 5)
        ahead = state_of([LENGTH, number(just(4)), LENGTH], length=length)
        after = [number(known_done("minus", length, just(4))), number(just(4)), LENGTH]
        self.next_is(("do", "minus", 0, box(1)), ahead, state_of(after, length=length))
        after = [LENGTH, number(known_done("times", just(4), length)), LENGTH]
        self.next_is(("do", "times", 1, box(2)), ahead, state_of(after, length=length))
        after = [number(known_done("plus", length, length)), number(just(4)), LENGTH]
        self.next_is(("do", "plus", 0, box(0)), ahead, state_of(after, length=length))

    def test_pointers_are_moved(self):
        for pointer in (("pile", just(2)), ("input", span(0, 3)), ("room", 0, just(1)), ("room", 3, all_of())):
            ahead = state_of([pointer, number(span(1, 2)), LENGTH], asks=ROOMS, length=span(3, 4))
            for word in ("plus", "minus"):
                for by, known in ((worth(65535), just(65535)), (box(1), span(1, 2)), (box(2), span(3, 4))):
                    after = pointer[:-1] + (known_done(word, pointer[-1], known),)
                    self.next_is(("do", word, 0, by), ahead, turned(ahead, 0, turned(ahead[0], 0, after)))

    def test_kind(self):
        pointers = [thing for thing in one_of_each() if thing[0] in ("pile", "input", "room")]
        maybe = ("maybe", 1)
        for word in DEEDS:
            for pointer in pointers:
                if word not in ("plus", "minus"):
                    self.word_is(("do", word, 0, worth(0)), state_of([pointer], asks=ROOMS), "kind")
                    self.word_is(("do", word, 0, box(1)), state_of([pointer, LENGTH], asks=ROOMS), "kind")
                for one in (NOUGHT, LENGTH, maybe, *pointers):
                    self.word_is(("do", word, 0, box(1)), state_of([one, pointer], asks=ROOMS), "kind")
            self.word_is(("do", word, 0, worth(0)), state_of([maybe], asks=ROOMS), "kind")
            for one in (NOUGHT, LENGTH, maybe, *pointers):
                self.word_is(("do", word, 0, box(1)), state_of([one, maybe], asks=ROOMS), "kind")

    def test_unset_ahead_of_kind(self):
        for thing in one_of_each():
            ahead = state_of([thing], asks=ROOMS)
            self.word_is(("do", "times", 0, box(5)), ahead, "unset")
            self.word_is(("do", "times", 5, box(0)), ahead, "unset")
        self.word_is(("do", "plus", 4, box(5)), first_state(), "unset")
        self.word_is(("do", "plus", 5, worth(1)), first_state(), "unset")

    def test_nothing_comes_where_nothing_can_be_held(self):
        self.assertIsNone(known_done("plus", EMPTY, just(6)))
        for thing in (number(EMPTY), ("pile", EMPTY), ("input", EMPTY), ("room", 0, EMPTY)):
            ahead = state_of([thing], asks=ROOMS)
            self.assertEqual(self.comes(("do", "plus", 0, worth(6)), ahead), [])
            self.assertEqual(comes([("do", "plus", 0, worth(6))], CONTRACT, 0, ahead), [])
        self.assertEqual(self.comes(("do", "plus", 0, worth(6)), state_of([LENGTH], length=EMPTY)), [])


class Jump(Checks):
    def test_each_ask_next_row_ahead(self):
        one, other = span(3, 9), span(5, 20)
        for word in ASKS:
            ahead = state_of([number(one), number(other)])
            wanted = []
            for truth, to in ((False, 2), (True, 0)):
                both = sharpened(word, one, other, truth=truth)
                wanted.append((to, state_of([number(both[0]), number(both[1])])))
            self.assertEqual(self.comes(("jump", word, 0, box(1), 0), ahead), wanted)

    def test_by_a_worth(self):
        came = self.comes(("jump", "under", 0, worth(7), 1), state_of([ALL]))
        self.assertEqual(came, [(2, state_of([number(span(7, 65535))])), (1, state_of([number(span(0, 6))]))])

    def test_to_the_next_row_both_answers_come(self):
        came = self.comes(("jump", "under", 0, worth(7), 2), state_of([ALL]))
        self.assertEqual(came, [(2, state_of([number(span(7, 65535))])), (2, state_of([number(span(0, 6))]))])

    def test_one_answer(self):
        ahead = state_of([number(span(3, 9))])
        self.assertEqual(self.comes(("jump", "under", 0, worth(10), 0), ahead), [(0, ahead)])
        self.assertEqual(self.comes(("jump", "over", 0, worth(9), 0), ahead), [(2, ahead)])
        self.assertEqual(self.comes(("jump", "same", 0, worth(10), 0), ahead), [(2, ahead)])
        self.assertEqual(self.comes(("jump", "same", 0, box(0), 0), state_of([NOUGHT])), [(0, state_of([NOUGHT]))])

    def test_the_same_box_has_what_is_known_of_by(self):
        came = self.comes(("jump", "under", 0, box(0), 0), state_of([number(span(3, 9))]))
        self.assertEqual(came, [(2, state_of([number(span(3, 9))])), (0, state_of([number(span(4, 9))]))])

    def test_length_is_sharpened(self):
        came = self.comes(("jump", "under", 2, worth(4), 0), first_state())
        ahead = first_state()[:3]
        self.assertEqual(came, [(2, ahead + (span(4, 16),)), (0, ahead + (span(0, 3),))])
        came = self.comes(("jump", "from", 0, box(1), 0), state_of([number(just(3)), LENGTH, LENGTH]))
        things = [number(just(3)), LENGTH, LENGTH]
        self.assertEqual(came, [(2, state_of(things, length=span(4, 16))), (0, state_of(things, length=span(0, 3)))])

    def test_length_and_a_number_are_both_sharpened(self):
        came = self.comes(("jump", "same", 0, box(1), 0), state_of([LENGTH, number(span(9, 99))]))
        no, yes = came
        self.assertEqual(no, (2, state_of([LENGTH, number(span(9, 99))])))
        self.assertEqual(yes, (0, state_of([LENGTH, number(span(9, 16))], length=span(9, 16))))

    def test_two_lengths_what_is_known_of_by_is_kept(self):
        came = self.comes(("jump", "under", 0, box(1), 0), state_of([LENGTH, LENGTH]))
        self.assertEqual(came, [(2, state_of([LENGTH, LENGTH])), (0, state_of([LENGTH, LENGTH], length=span(1, 16)))])
        came = self.comes(("jump", "over", 0, box(0), 0), state_of([LENGTH]))
        self.assertEqual(came, [(2, state_of([LENGTH])), (0, state_of([LENGTH], length=span(0, 15)))])

    def test_maybe_by_same_and_unlike_wherever_it_stands(self):
        maybe, room = ("maybe", 1), ("room", 1, just(0))
        boxes = [maybe, NOUGHT, UNSET, ("room", 0, just(0)), ("pile", just(1)), maybe]
        pile = [UNSET, maybe, LENGTH, ALL, maybe, ("room", 3, just(1)), UNSET, maybe]
        ahead = state_of(boxes, pile, ROOMS)

        def exchanged(thing, asks):
            return state_of(
                [thing if part == maybe else part for part in boxes],
                [thing if part == maybe else part for part in pile], asks)

        nothing = exchanged(NOUGHT, (ROOMS[0], ROOMS[2]))
        there = exchanged(room, (ROOMS[0], (1, "rooms", True), ROOMS[2]))
        for by in (worth(0), box(1)):
            self.assertEqual(self.comes(("jump", "same", 0, by, 0), ahead), [(2, there), (0, nothing)])
            self.assertEqual(self.comes(("jump", "unlike", 5, by, 0), ahead), [(2, nothing), (0, there)])

    def test_other_maybes_stay(self):
        asks = ((0, "rooms", False), (2, "halls", False), (3, "rooms", False))
        ahead = state_of([("maybe", 0), ("maybe", 2), ("maybe", 3)], asks=asks)
        came = self.comes(("jump", "same", 1, worth(0), 0), ahead)
        self.assertEqual(came, [
            (2, state_of([("maybe", 0), ("room", 2, just(0)), ("maybe", 3)],
                         asks=(asks[0], (2, "halls", True), asks[2]))),
            (0, state_of([("maybe", 0), NOUGHT, ("maybe", 3)], asks=(asks[0], asks[2]))),
        ])

    def test_a_pointer_is_never_nothing(self):
        for pointer in (("pile", just(0)), ("pile", all_of()), ("input", just(0)), ("room", 0, just(0))):
            ahead = state_of([pointer, NOUGHT, LENGTH], asks=ROOMS, length=just(0))
            for by in (worth(0), box(1), box(2)):
                self.assertEqual(self.comes(("jump", "same", 0, by, 0), ahead), [(2, ahead)])
                self.assertEqual(self.comes(("jump", "unlike", 0, by, 0), ahead), [(0, ahead)])

    def test_kind(self):
        pointers = [("pile", just(0)), ("input", just(0)), ("room", 0, just(0)), ("maybe", 1)]
        for thing in pointers:
            ahead = state_of([thing, number(span(0, 1)), LENGTH, NOUGHT, thing], asks=ROOMS)
            for word in ASKS:
                for by in (worth(1), worth(65535), box(1), box(2), box(4), box(0)):
                    self.word_is(("jump", word, 0, by, 0), ahead, "kind")
                for place in (1, 2, 3):
                    self.word_is(("jump", word, place, box(0), 0), ahead, "kind")
                if word not in ("same", "unlike"):
                    self.word_is(("jump", word, 0, worth(0), 0), ahead, "kind")

    def test_unset_ahead_of_kind(self):
        for thing in one_of_each():
            ahead = state_of([thing], asks=ROOMS)
            self.word_is(("jump", "same", 0, box(1), 0), ahead, "unset")
            self.word_is(("jump", "same", 1, box(0), 0), ahead, "unset")
            self.word_is(("jump", "same", 1, worth(0), 0), ahead, "unset")

    def test_nothing_comes_where_no_answer_is_left(self):
        # Where its bit 3 is 1 the other bits tell 9, where it is 0 they tell 1.
        self.assertEqual(settled(EMPTY), EMPTY)
        for truth in (False, True):
            self.assertIsNone(sharpened("bits", EMPTY, just(8), truth=truth))
        row = ("jump", "bits", 0, worth(8), 0)
        self.assertEqual(self.comes(row, state_of([number(EMPTY)])), [])
        self.assertEqual(comes([row], CONTRACT, 0, state_of([number(EMPTY)])), [])


class Load(Checks):
    def test_one_cell_of_the_pile_as_it_is_known(self):
        for place in range(8):
            for thing in one_of_each():
                pile = [UNSET] * place + [thing]
                for start, off in ((0, place), (place, 0), (7, place - 7), (8, place - 8), (65535, place + 1)):
                    ahead = state_of([("pile", just(start))], pile, ROOMS)
                    after = state_of([("pile", just(start)), thing], pile, ROOMS)
                    self.next_is(("load", 1, 0, off), ahead, after)
                    self.next_is(("load", 0, 0, off), ahead, state_of([thing], pile, ROOMS))
            self.word_is(("load", 1, 0, place), state_of([("pile", just(0))]), "unset")

    def test_several_cells_of_the_pile(self):
        pile = [UNSET, NOUGHT, number(span(3, 4)), LENGTH, ("pile", just(0)), ("maybe", 1), ALL, LENGTH]
        ahead = state_of([("pile", span(0, 1))], pile, ROOMS)
        for off, wanted in ((0, "unset"), (1, ALL), (2, ALL), (3, "kind"), (4, "kind"), (5, "kind"), (6, ALL)):
            if isinstance(wanted, str):
                self.word_is(("load", 1, 0, off), ahead, wanted)
            else:
                self.next_is(("load", 1, 0, off), ahead, state_of([("pile", span(0, 1)), wanted], pile, ROOMS))
        self.word_is(("load", 1, 0, 7), ahead, "outside")
        self.word_is(("load", 1, 0, -1), ahead, "outside")
        self.word_is(("load", 1, 0, 0), state_of([("pile", span(3, 6))], pile, ROOMS), "kind")
        self.word_is(("load", 1, 0, 0), state_of([("pile", span(0, 6))], pile, ROOMS), "unset")

    def test_all_from_least_to_most_count_whatever_the_bits(self):
        even = (0, 6, 0, 6, 0, 6)
        pile = [NOUGHT, UNSET, NOUGHT, NOUGHT, NOUGHT, NOUGHT, NOUGHT]
        self.word_is(("load", 1, 0, 0), state_of([("pile", even)], pile), "unset")
        pile[1] = LENGTH
        self.next_is(("load", 1, 0, 0), state_of([("pile", even)], pile), state_of([("pile", even), ALL], pile))

    def test_input(self):
        for least, length in ((0, just(1)), (2, span(3, 16)), (15, just(16)), (0, all_of()), (3, span(3, 9))):
            ahead = state_of([("input", just(least))], length=length)
            if least < length[2]:
                after = state_of([("input", just(least)), ALL], length=length)
                self.next_is(("load", 1, 0, 0), ahead, after)
            else:
                self.word_is(("load", 1, 0, 0), ahead, "outside")
            self.word_is(("load", 1, 0, length[2] - least), ahead, "outside")
        ahead = state_of([("input", span(1, 3))], length=span(4, 5))
        self.next_is(("load", 0, 0, 0), ahead, state_of([ALL], length=span(4, 5)))
        self.next_is(("load", 0, 0, -1), ahead, state_of([ALL], length=span(4, 5)))
        self.word_is(("load", 0, 0, 1), ahead, "outside")
        self.word_is(("load", 0, 0, -2), ahead, "outside")

    def test_rooms(self):
        for ask, size in ((0, 4), (3, 2)):
            for known in (just(0), just(size - 1), span(0, size - 1)):
                pointer = ("room", ask, known)
                self.next_is(("load", 1, 0, 0), state_of([pointer], asks=ROOMS), state_of([pointer, ALL], asks=ROOMS))
                self.word_is(("load", 1, 0, size), state_of([pointer], asks=ROOMS), "outside")
                self.word_is(("load", 1, 0, size - known[3]), state_of([pointer], asks=ROOMS), "outside")
                self.word_is(("load", 1, 0, -1 - known[2]), state_of([pointer], asks=ROOMS), "outside")

    def test_words(self):
        self.word_is(("load", 0, 5, 0), first_state(), "unset")
        for thing in (NOUGHT, LENGTH, ALL, ("maybe", 1)):
            self.word_is(("load", 5, 0, 0), state_of([thing], [NOUGHT], ROOMS), "kind")
        self.word_is(("load", 5, 0, 8), state_of([("pile", just(0))]), "outside")
        self.word_is(("load", 5, 0, 0), state_of([("pile", all_of())], [NOUGHT] * 8), "outside")

    def test_nothing_comes_where_nothing_can_be_held(self):
        for thing in (("pile", EMPTY), ("input", EMPTY), ("room", 0, EMPTY)):
            self.assertEqual(self.comes(("load", 5, 0, 6), state_of([thing], asks=ROOMS)), [])
            self.assertEqual(self.comes(("store", 0, 6, worth(1)), state_of([thing], asks=ROOMS)), [])


class Store(Checks):
    def test_one_cell_of_the_pile(self):
        for place in range(8):
            for thing in one_of_each():
                ahead = state_of([("pile", just(3)), thing], [LENGTH] * 8, ROOMS)
                after = turned(ahead, 1, turned(ahead[1], place, thing))
                self.next_is(("store", 0, place - 3, box(1)), ahead, after)
            ahead = state_of([("pile", just(3))], asks=ROOMS)
            self.next_is(("store", 0, place - 3, box(0)), ahead,
                         turned(ahead, 1, turned(ahead[1], place, ("pile", just(3)))))
            self.next_is(("store", 0, place - 3, worth(9)), ahead,
                         turned(ahead, 1, turned(ahead[1], place, number(just(9)))))

    def test_several_cells_of_the_pile(self):
        pile = [UNSET, NOUGHT, number(span(3, 4)), LENGTH, ("pile", just(0)), ("maybe", 1), ("room", 0, just(0)), NOUGHT]
        after = [UNSET, ALL, ALL, ALL, UNSET, UNSET, UNSET, NOUGHT]
        for by, thing in ((worth(0), UNSET), (box(1), LENGTH), (box(1), NOUGHT)):
            ahead = state_of([("pile", span(0, 6)), thing], pile, ROOMS)
            self.next_is(("store", 0, 0, by), ahead, state_of([("pile", span(0, 6)), thing], after, ROOMS))
        ahead = state_of([("pile", span(1, 2))], pile, ROOMS)
        self.next_is(("store", 0, 1, worth(5)), ahead, turned(ahead, 1, tuple(pile[:2] + [ALL, ALL] + pile[4:])))
        for thing in (("pile", just(0)), ("input", just(0)), ("room", 0, just(0)), ("maybe", 1)):
            ahead = state_of([("pile", span(0, 6)), thing], pile, ROOMS)
            self.word_is(("store", 0, 0, box(1)), ahead, "kind")
            self.word_is(("store", 0, 2, box(1)), ahead, "outside")

    def test_rooms(self):
        for thing in (NOUGHT, ALL, LENGTH):
            ahead = state_of([("room", 3, span(0, 1)), thing], asks=ROOMS)
            self.next_is(("store", 0, 0, box(1)), ahead, ahead)
            self.next_is(("store", 0, 0, worth(3)), ahead, ahead)
            self.word_is(("store", 0, 1, box(1)), ahead, "outside")
        for thing in (("pile", just(0)), ("input", just(0)), ("room", 0, just(0)), ("maybe", 1)):
            ahead = state_of([("room", 3, just(0)), thing], asks=ROOMS)
            self.word_is(("store", 0, 1, box(1)), ahead, "out")
            self.word_is(("store", 0, 2, box(1)), ahead, "outside")

    def test_input(self):
        for thing in one_of_each():
            ahead = state_of([("input", just(1)), thing], asks=ROOMS, length=span(2, 3))
            self.word_is(("store", 0, 0, box(1)), ahead, "write")
            self.word_is(("store", 0, 1, box(1)), ahead, "outside")
            self.word_is(("store", 0, -2, worth(0)), ahead, "outside")

    def test_unset_then_kind_then_outside(self):
        for thing in one_of_each():
            ahead = state_of([thing], asks=ROOMS)
            self.word_is(("store", 0, 15, box(5)), ahead, "unset")
            self.word_is(("store", 5, 15, box(0)), ahead, "unset")
            self.word_is(("store", 5, 15, worth(0)), ahead, "unset")
            if thing[0] in ("number", "length", "maybe"):
                self.word_is(("store", 0, 15, box(0)), ahead, "kind")
                self.word_is(("store", 0, 0, worth(3)), ahead, "kind")
            else:
                self.word_is(("store", 0, 15, box(0)), ahead, "outside")


class Call(Checks):
    def called(self, name, boxes, word=None, given=None, **more):
        """A call, with boxes 4 and 5 as they were behind it."""
        rest = [("pile", just(1)), LENGTH]
        boxes = list(boxes) + [UNSET] * (4 - len(boxes)) + rest
        ahead = state_of(boxes, **more)
        if word is not None:
            self.word_is(("call", name), ahead, word)
            return
        self.next_is(("call", name), ahead, state_of([given] + [UNSET] * 3 + rest, **more))

    def test_no_such_call_ahead_of_all(self):
        for name in ("other", "a", "finds"):
            self.word_is(("call", name), state_of(), "call")
            self.word_is(("call", name), first_state(), "call")

    def test_numbers_are_given(self):
        three = number(span(10, 12))
        self.called("ask", [UNSET], given=three)
        self.called("ask", one_of_each()[3:7], given=three, asks=ROOMS)
        self.assertEqual(call_of(CONTRACT, "ask")[1], ("number", 10, 12))

    def test_number_takes(self):
        cells = [NOUGHT, NOUGHT]
        for known, good in ((just(0), True), (just(255), True), (span(0, 255), True), (span(3, 9), True),
                            (just(256), False), (span(0, 256), False), (all_of(), False), (just(65535), False)):
            word, given = (None, number(span(0, 7))) if good else ("call", None)
            self.called("tell", [UNSET, number(known), ("pile", just(0))], word, given, pile=cells)
            if known[3] < 256:
                self.called("tell", [UNSET, LENGTH, ("pile", just(0))], word, given, pile=cells, length=known)
        for thing in one_of_each()[3:]:
            self.called("tell", [NOUGHT, thing, ("pile", just(0))], "call", pile=cells, asks=ROOMS)
        self.called("tell", [NOUGHT, LENGTH, ("pile", just(0))], "call", pile=cells, length=all_of())
        self.called("tell", [NOUGHT, UNSET, UNSET], "unset")

    def test_the_least_of_a_number_counts(self):
        boxes = [NOUGHT, ("room", 3, just(0))]
        for known, good in ((just(1), True), (span(1, 3), True), (just(3), True), (just(0), False), (span(0, 3), False),
                            (span(1, 4), False)):
            ahead = state_of(boxes + [number(known)], asks=((3, "halls", True),))
            if good:
                self.next_is(("call", "leave"), ahead, state_of([NOUGHT]))
            else:
                self.word_is(("call", "leave"), ahead, "call")

    def test_cells_of_the_pile(self):
        given = number(span(0, 7))
        for least, most in ((0, 0), (6, 6), (0, 6), (2, 3), (5, 6)):
            wanted = range(least, most + 2)
            pile = [(LENGTH, ALL, NOUGHT)[place % 3] if place in wanted else UNSET for place in range(8)]
            boxes = [UNSET, NOUGHT, ("pile", span(least, most))]
            self.called("tell", boxes, None, given, pile=pile)
            for place in wanted:
                for thing in (UNSET, ("pile", just(0)), ("maybe", 1), ("room", 0, just(0))):
                    wrong = pile[:place] + [thing] + pile[place + 1:]
                    self.called("tell", boxes, "call", pile=wrong, asks=ROOMS)
        for known in (just(7), just(8), span(0, 7), just(65535), all_of()):
            self.called("tell", [UNSET, NOUGHT, ("pile", known)], "call", pile=[NOUGHT] * 8)

    def test_cells_of_the_input_and_of_rooms(self):
        given = number(span(0, 7))
        for most, least_length in ((0, 2), (3, 5), (14, 16)):
            boxes = [UNSET, NOUGHT, ("input", span(0, most))]
            self.called("tell", boxes, None, given, length=span(least_length, 20))
            self.called("tell", boxes, "call", length=span(least_length - 1, 20))
        self.called("tell", [UNSET, NOUGHT, ("input", just(65535))], "call", length=all_of())
        for ask, known, good in ((0, span(0, 2), True), (0, just(3), False), (3, just(0), True), (3, span(0, 1), False)):
            boxes = [UNSET, NOUGHT, ("room", ask, known)]
            if good:
                self.called("tell", boxes, None, given, asks=ROOMS)
            else:
                self.called("tell", boxes, "call", asks=ROOMS)
        for thing in (NOUGHT, LENGTH, ("maybe", 1)):
            self.called("tell", [UNSET, NOUGHT, thing], "call", asks=ROOMS, pile=[NOUGHT] * 8)
        self.called("tell", [UNSET, NOUGHT, UNSET], "unset")

    def test_room_takes(self):
        boxes = [UNSET, ("pile", just(0)), ("pile", just(0))]
        given = number(just(5))
        pile = [NOUGHT] * 8
        self.called("look", boxes + [("room", 0, just(0))], None, given, asks=ROOMS, pile=pile)
        for thing in (("room", 0, just(1)), ("room", 0, span(0, 1)), ("room", 3, just(0)), ("maybe", 1), NOUGHT, LENGTH,
                      ("pile", just(0)), ("input", just(0))):
            self.called("look", boxes + [thing], "call", asks=ROOMS, pile=pile)
        self.called("look", boxes, "unset", pile=pile)

    def test_takes_one_by_one(self):
        pile = [NOUGHT] * 8
        self.called("look", [UNSET, NOUGHT, UNSET, UNSET], "call", pile=pile)
        self.called("look", [UNSET, UNSET, NOUGHT, NOUGHT], "unset", pile=pile)
        self.called("look", [UNSET, ("pile", just(0)), UNSET, NOUGHT], "unset", pile=pile)
        self.called("look", [UNSET, ("pile", just(0)), ("pile", just(1)), UNSET], "call", pile=pile)
        self.called("look", [UNSET, ("pile", just(8)), UNSET, UNSET], "call", pile=pile)

    def test_lent_by_the_least_free_ask(self):
        for numbers in ((), (0,), (1,), (0, 1), (0, 2), (1, 2, 3), (0, 1, 3), (2, 3), (0, 1, 2)):
            asks = tuple((ask, "halls", ask != 2) for ask in numbers)
            free = min(set(range(4)) - set(numbers))
            for name, shelf in (("find", "rooms"), ("hall", "halls")):
                after = tuple(sorted(asks + ((free, shelf, False),)))
                self.next_is(("call", name), state_of([ALL, number(just(9)), ALL, ALL, LENGTH], asks=asks),
                             state_of([("maybe", free), UNSET, UNSET, UNSET, LENGTH], asks=after))

    def test_four_asks(self):
        asks = tuple((ask, "rooms", ask % 2 == 0) for ask in range(4))
        self.word_is(("call", "find"), state_of([ALL, NOUGHT], asks=asks), "call")
        self.word_is(("call", "find"), state_of([ALL], asks=asks), "unset")
        self.next_is(("call", "ask"), state_of([ALL, NOUGHT], asks=asks), state_of([number(span(10, 12))], asks=asks))

    def test_key_of_a_lent_room(self):
        self.word_is(("call", "hall"), state_of([ALL, number(span(0, 10))]), "call")
        self.word_is(("call", "hall"), state_of([ALL, ("pile", just(0))]), "call")
        self.next_is(("call", "hall"), state_of([ALL, LENGTH], length=span(0, 9)),
                     state_of([("maybe", 0)], asks=((0, "halls", False),), length=span(0, 9)))

    def test_back(self):
        gone = [("room", 0, just(0)), ("room", 0, just(3)), ("room", 0, all_of())]
        rest = [("room", 3, just(0)), ("maybe", 1)]
        ahead = state_of([gone[1], gone[0], rest[0], UNSET, gone[2], rest[1]], [gone[1], rest[0], LENGTH, gone[0]], ROOMS)
        after = state_of([NOUGHT, UNSET, UNSET, UNSET, UNSET, rest[1]], [UNSET, rest[0], LENGTH, UNSET], ROOMS[1:])
        self.next_is(("call", "back"), ahead, after)
        for thing in (("room", 0, just(1)), ("room", 3, just(0)), ("maybe", 1), NOUGHT, ("pile", just(0))):
            self.word_is(("call", "back"), state_of([ALL, thing], asks=ROOMS), "call")
        self.word_is(("call", "back"), state_of([ALL], asks=ROOMS), "unset")


class EndAndOff(Checks):
    def test_end(self):
        for thing in (NOUGHT, ALL, LENGTH, number(span(3, 9))):
            self.assertEqual(self.comes(("end",), state_of([thing])), [])
            self.assertEqual(comes([("end",)], CONTRACT, 0, state_of([thing])), [])
            self.word_is(("end",), state_of([thing], asks=((2, "halls", True),)), "kept")
            self.word_is(("end",), state_of([thing], asks=((2, "halls", False),)), "kept")
        self.word_is(("end",), state_of(), "unset")
        self.word_is(("end",), state_of(asks=ROOMS), "unset")
        for thing in (("pile", just(0)), ("input", just(0)), ("room", 0, just(0)), ("maybe", 1)):
            self.word_is(("end",), state_of([thing], asks=ROOMS), "out")

    def test_off_behind_the_last_row(self):
        ahead = state_of([("pile", just(0)), NOUGHT, LENGTH], [NOUGHT] * 8)
        rows = [("set", 0, 1), ("move", 0, 1), ("do", "plus", 0, worth(1)), ("load", 1, 0, 0),
                ("store", 0, 0, box(1)), ("call", "ask"), ("jump", "under", 2, worth(9), 0),
                ("jump", "same", 0, worth(0), 0), ("jump", "under", 2, worth(9), 1)]
        for row in rows:
            self.assertEqual(comes([("end",), row], CONTRACT, 1, ahead), "off")
        self.assertEqual(comes(rows[:1], CONTRACT, 0, ahead), "off")
        self.assertEqual(comes([("end",), ("go", 1)], CONTRACT, 1, ahead), [(1, ahead)])
        self.assertEqual(comes([("end",), ("jump", "unlike", 0, worth(0), 0)], CONTRACT, 1, ahead), [(0, ahead)])
        self.assertEqual(comes([("end",), ("jump", "same", 1, worth(0), 0)], CONTRACT, 1, ahead), [(0, ahead)])

    def test_the_rows_own_word_goes_first(self):
        for row, word in ((("move", 0, 5), "unset"), (("do", "times", 0, worth(1)), "kind"), (("load", 3, 0, 9), "outside"),
                          (("store", 1, 0, worth(0)), "outside"), (("call", "other"), "call"),
                          (("jump", "same", 0, worth(1), 0), "kind")):
            self.assertEqual(comes([row], CONTRACT, 0, first_state()), word)

    def test_behind_the_last_row(self):
        self.assertEqual(comes([("end",)], CONTRACT, 1, first_state()), "off")


class Drawn(Checks):
    def test_as_the_second_telling(self):
        source = random.Random(200)
        told = {}
        for _ in range(4000):
            state = drawn_state(source)
            many = source.choice((1, 3))
            program = [fitting_row(source, state, many, CALLS + ["other"]) for _ in range(many)]
            row = source.randrange(many)
            came = comes(program, CONTRACT, row, state)
            self.assertEqual(came, plain_comes(program, CONTRACT, row, state), (program[row], state))
            kind = came if isinstance(came, str) else len(came)
            told[program[row][0], kind] = told.get((program[row][0], kind), 0) + 1
            if not isinstance(came, str):
                for to, after in came:
                    self.assertIs(is_state(CONTRACT, after), True, (program[row], state, after))
                    self.assertLess(to, many)
        for kind in (("jump", 2), ("load", 1), ("store", 1), ("call", 1), ("do", 1), ("store", "write"),
                     ("store", "out"), ("call", "unset"), ("jump", "off"), ("end", "kept")):
            self.assertIn(kind, told)

    def test_a_state_within_another_one(self):
        source = random.Random(201)
        looked_at = 0
        for _ in range(4000):
            wider = drawn_state(source)
            program = [("end",), fitting_row(source, wider, 3, CALLS), ("end",)]
            came = comes(program, CONTRACT, 1, wider)
            if isinstance(came, str):
                continue
            lesser = lesser_state(source, wider)
            self.assertIs(state_within(lesser, wider), True)
            if self.asks_the_length_of_itself(program[1], lesser):
                continue
            looked_at += 1
            of_lesser = comes(program, CONTRACT, 1, lesser)
            self.assertNotIsInstance(of_lesser, str, (program[1], wider, lesser))
            for to, after in of_lesser:
                self.assertTrue(
                    any(to == row and state_within(after, state) for row, state in came), (program[1], wider, lesser))
        self.assertGreater(looked_at, 1500)

    def asks_the_length_of_itself(self, row, state):
        """Whether a row asks by an order two boxes that both have the length: by point [20] by's is kept then.

        What comes needn't lie within what comes of a wider state then, but no run is lost: of two like numbers
        one is never less.
        """
        if row[0] != "jump" or row[1] not in ORDERS or row[3][0] != "box":
            return False
        return row[2] != row[3][1] and state[0][row[2]] == state[0][row[3][1]] == LENGTH

    def test_what_comes_of_the_length_asked_of_itself_holds_each_run(self):
        for word in ASKS:
            program = [("move", 3, 2), ("jump", word, 2, box(3), 3), ("go", 1), ("go", 1)]
            for many in (0, 1, 9, 15, 16):
                self.walk(program, [3] * many, {"rooms": {}, "halls": {}}, (), first_state(), 4)

    def walk(self, program, given, shelves, answers, state, most):
        """Walks a Runner, and the states that hold it, from a state on; told is how many steps were held."""
        runner = Runner(program, CONTRACT, given=given, shelves=shelves, answers=answers)
        return self.walk_on(program, runner, [state], most)

    def walk_on(self, program, runner, states, most):
        for many in range(most):
            row = runner.row()
            all_came = [comes(program, CONTRACT, row, state) for state in states]
            good = [came for came in all_came if not isinstance(came, str)]
            runner.step()
            told = runner.told()
            if good:
                self.assertIn(None if told is None else told[0], (None, "end"), (program, row, states))
            if told is not None or not good:
                return many + 1
            states = []
            for came in good:
                # Each of the states that held it has one behind it that holds it.
                held = [after for to, after in came if to == runner.row() and state_holds(after, runner)]
                self.assertTrue(held, (program, row, all_came))
                states = held[:1]
        return most

    def test_runs_from_the_first_state_on(self):
        source = random.Random(202)
        steps = 0
        for turn in range(160):
            given = [source.randrange(9) for _ in range(source.choice((0, 1, 3, 5, 16)))]
            answers = [source.randrange(-9, 70000) for _ in range(source.randrange(4))]
            if turn % 4 == 0:
                program = drawn_program(source, CALLS)
            elif turn % 4 == 1:
                program = long_program(source, CONTRACT, given, SHELVES, answers, 40)
            else:
                program = tame_program(source) if turn % 4 == 2 else spoiled_program(source, CALLS)
            steps += self.walk(program, given, SHELVES, answers, first_state(), 150)
        self.assertGreater(steps, 3000)

    def test_runs_from_states_about_them(self):
        source = random.Random(203)
        held = 0
        for _ in range(50):
            given = [source.randrange(9) for _ in range(source.randrange(5))]
            program = long_program(source, CONTRACT, given, SHELVES, [1, 2], 40)
            runner = Runner(program, CONTRACT, given=given, shelves=SHELVES, answers=[1, 2])
            while runner.told() is None and len(runner.lent()) <= 4:
                for _ in range(3):
                    state = right_state(source, runner)
                    held += self.walk_on(program, runner.twin(), [state], 3)
                runner.step()
        self.assertGreater(held, 3000)


if __name__ == "__main__":
    unittest.main()
