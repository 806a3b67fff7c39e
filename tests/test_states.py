"""Points [18], [19] and, of [21], the first state, with the interface's "boundgate/states.py"."""

import copy
import itertools
import random
import unittest

from boundgate import states as module
from boundgate.known import all_of, just, settled, span
from boundgate.runner import Runner
from boundgate.states import first_state, is_state, state_holds, state_within
from tests.drawn_states import right_state
from tests.plain import CONTRACT, SHELVES, long_program
from tests.things import cost, drawn_known, odd_things, shape

UNSET = ("unset",)
LENGTH = ("length",)
ASKS = ((0, "rooms", True), (1, "rooms", False), (3, "halls", True))
ALL = all_of()
LOOSE = (0, 65535, 5, 9, -32768, 32767)
LEND = [("set", 1, 5), ("call", "find"), ("move", 4, 0), ("set", 1, 0), ("call", "find"), ("move", 5, 0), ("set", 0, 0)]


def number(known):
    return ("number", known)


def state(boxes=(), pile=(), asks=(), length=span(0, 16)):
    """A state with these first boxes and cells, the others unset."""
    boxes = tuple(boxes) + (UNSET,) * (6 - len(boxes))
    return (boxes, tuple(pile) + (UNSET,) * (8 - len(pile)), asks, length)


def turned(known, place, part):
    """A tuple with another part at a place."""
    return known[:place] + (part,) + known[place + 1:]


def right_things():
    """What may be known of a box or cell by ASKS."""
    things = [UNSET, LENGTH, ("room", 0, just(0)), ("room", 3, ALL), ("room", 0, span(1, 7)), ("maybe", 1)]
    for known in (ALL, just(0), just(65535), span(3, 9), settled((0, 65535, 0, 65535, -4, 6))):
        things += [(kind, known) for kind in ("number", "pile", "input")]
    return things


def wrong_things():
    """What may not."""
    things = odd_things() + ["unset", "number", 0, 7, (), ("unset", 0), ("length", ALL), ("Unset",), ("none",), (0,)]
    things += [["unset"], ["number", ALL], (UNSET,), (["unset"],), (None,), ("number",), ("number", ALL, ALL), ALL]
    things += [("pile",), ("pile", 0), ("pile", ALL, 0), ("input",), ("input", 3), ("room", ALL), ("room", 0)]
    things += [("number", 7), ("cells", ALL), ("lent", 0)]
    things += [("room", 1, ALL), ("room", 2, ALL), ("room", 4, ALL), ("room", -1, ALL), ("room", True, ALL)]
    things += [("room", False, ALL), ("room", None, ALL), ("room", "0", ALL), ("room", [0], ALL), ("room", 0, ALL, 0)]
    things += [("room", {}, ALL), ("room", 0.0, ALL)]
    things += [("maybe",), ("maybe", 0), ("maybe", 2), ("maybe", 3), ("maybe", 4), ("maybe", True), ("maybe", None)]
    things += [("maybe", 1, ALL), ("maybe", [1]), ("maybe", {}), ("maybe", "1"), ("maybe", 1.0), ("maybe", ALL)]
    for known in no_known() + odd_things():
        things += [("number", known), ("pile", known), ("input", known), ("room", 0, known)]
    return things


def no_known():
    """Things that are no settled known numbers of sixteen bits."""
    return [
        LOOSE, list(ALL), ALL[:5], ALL + (0,), (0, 0, 0, 65535, 0, 0), (1, 1, 0, 1, 0, 1), just(70000, wide=32),
        all_of(wide=32), all_of(wide=8), (0, 65535, 2, 1, -32768, 32767), (True, 0, 1, 1, 1, 1), (0, 0, 0, False, 0, 0),
        ("0", 0, 0, 0, 0, 0), 0, 7, "known",
    ]


class Interface(unittest.TestCase):
    def test_arguments_by_place_and_by_name(self):
        self.assertEqual(shape(is_state), (["contract", "thing"], {}))
        self.assertEqual(shape(state_within), (["one", "other"], {}))
        self.assertEqual(shape(state_holds), (["state", "runner"], {}))
        self.assertEqual(shape(first_state), ([], {}))
        first = first_state()
        self.assertIs(is_state(thing=first, contract=CONTRACT), True)
        self.assertIs(state_within(other=first, one=first), True)
        self.assertIs(state_holds(runner=Runner([("end",)], CONTRACT), state=first), True)

    def test_defined_in_the_file(self):
        for name in ("is_state", "state_within", "state_holds", "first_state"):
            self.assertEqual(getattr(module, name).__module__, "boundgate.states")


class FirstState(unittest.TestCase):
    def test_it(self):
        boxes = (("pile", just(0)), ("input", just(0)), LENGTH, UNSET, UNSET, UNSET)
        self.assertEqual(first_state(), (boxes, (UNSET,) * 8, (), (0, 31, 0, 16, 0, 16)))
        self.assertIs(is_state(([], []), first_state()), True)

    def test_it_holds_each_run_at_first(self):
        for many in range(17):
            self.assertIs(state_holds(first_state(), Runner([("end",)], CONTRACT, given=[9] * many)), True)


class IsState(unittest.TestCase):
    def test_right_things_anywhere(self):
        for thing in right_things():
            for place in range(6):
                self.assertIs(is_state(CONTRACT, state(boxes=[UNSET] * place + [thing], asks=ASKS)), True, thing)
            for place in range(8):
                self.assertIs(is_state(CONTRACT, state(pile=[UNSET] * place + [thing], asks=ASKS)), True, thing)

    def test_wrong_things_anywhere(self):
        for thing in wrong_things():
            for place in (0, 5):
                self.assertIs(is_state(CONTRACT, state(boxes=[UNSET] * place + [thing], asks=ASKS)), False, repr(thing))
            for place in (0, 7):
                self.assertIs(is_state(CONTRACT, state(pile=[UNSET] * place + [thing], asks=ASKS)), False, repr(thing))

    def test_asks_must_be_there(self):
        for thing in (("room", 0, ALL), ("maybe", 1)):
            self.assertIs(is_state(CONTRACT, state([thing])), False)
            self.assertIs(is_state(CONTRACT, state(pile=[thing])), False)
        self.assertIs(is_state(CONTRACT, state(asks=ASKS)), True)

    def test_right_asks(self):
        for asks in (
            (), ((0, "rooms", True),), ((3, "halls", False),), ASKS,
            tuple((ask, "rooms", ask % 2 == 0) for ask in range(4)), ((0, "rooms", True), (1, "halls", False)),
        ):
            self.assertIs(is_state(CONTRACT, state(asks=asks)), True, asks)

    def test_wrong_asks(self):
        one = (0, "rooms", True)
        wrong = odd_things() + ["", 0, [one], {0: one}, one, ((one,),), (list(one),), (one, one), "rooms"]
        wrong += [((1, "rooms", True), (0, "rooms", True)), ((0, "rooms", True), (0, "halls", False))]
        wrong += [((4, "rooms", True),), ((-1, "rooms", True),), ((0, "rooms"),), ((0, "rooms", True, 0),), ((),)]
        wrong += [((0, "rooms", True), (2, "rooms", True), (1, "rooms", True))]
        wrong += [((0, name, True),) for name in ["other", "", "Rooms", 0, ("rooms",), ["rooms"]] + odd_things()]
        wrong += [((ask, "rooms", True),) for ask in [True, False, None, "0", 0.0, (0,), [0], {}, 10 ** 59]]
        wrong += [((0, "rooms", sure),) for sure in [1, 0, None, "True", "", 1.0, (), [True], {}]]
        wrong += [(thing,) for thing in odd_things()]
        wrong += [tuple((ask, "rooms", True) for ask in range(5))]
        for asks in wrong:
            self.assertIs(is_state(CONTRACT, state(asks=asks)), False, repr(asks))
        self.assertIs(is_state(([], []), state(asks=(one,))), False)
        self.assertIs(is_state(([("rooms", 1)], []), state(asks=(one,))), True)

    def test_length(self):
        for known in (ALL, just(0), just(16), span(3, 9), just(65535), span(0, 16)):
            self.assertIs(is_state(CONTRACT, state(length=known)), True)
        for known in no_known() + odd_things() + [LENGTH, number(ALL)]:
            self.assertIs(is_state(CONTRACT, state(length=known)), False, repr(known))

    def test_forms(self):
        right = first_state()
        for thing in odd_things() + ["", 0, 7, (), right[:3], right + (0,), list(right), (right,), dict(enumerate(right))]:
            self.assertIs(is_state(CONTRACT, thing), False, repr(thing))
        for place in range(4):
            for thing in odd_things() + ["", 0, right]:
                self.assertIs(is_state(CONTRACT, turned(right, place, thing)), False, (place, repr(thing)))
            if place < 3:
                self.assertIs(is_state(CONTRACT, turned(right, place, list(right[place]))), False)
        for boxes in (right[0][:5], right[0] + (UNSET,), (), right[1]):
            self.assertIs(is_state(CONTRACT, turned(right, 0, boxes)), False)
        for pile in (right[1][:7], right[1] + (UNSET,), (), right[0]):
            self.assertIs(is_state(CONTRACT, turned(right, 1, pile)), False)

    def test_what_is_handed_in_stays_as_it_is(self):
        for thing in ([[], [], [], []], (([],) * 6, (UNSET,) * 8, (), ALL), {"a": [1]}):
            ahead = copy.deepcopy(thing)
            self.assertIs(is_state(CONTRACT, thing), False)
            self.assertEqual(thing, ahead)


def within(one, other, length):
    """Point [19] told a second time: whether what is known of a box lies within that of another."""
    if other == UNSET:
        return True
    if one == LENGTH and other[0] == "number":
        one = number(length)
    if one[0] != other[0] or len(one) != len(other):
        return False
    if one[0] in ("unset", "length"):
        return True
    if one[0] == "maybe":
        return one[1] == other[1]
    if one[0] == "room" and one[1] != other[1]:
        return False
    (value, unsure, *ends), (other_value, other_unsure, *other_ends) = one[-1], other[-1]
    bits = unsure & ~other_unsure == 0 and value & ~other_unsure == other_value
    return bits and ends[0] >= other_ends[0] and ends[1] <= other_ends[1] and ends[2] >= other_ends[2] \
        and ends[3] <= other_ends[3]


class StateWithin(unittest.TestCase):
    ASKS = ((0, "rooms", True), (1, "rooms", False), (2, "rooms", True), (3, "rooms", False))

    def things(self):
        things = [UNSET, LENGTH, ("maybe", 1), ("maybe", 3)]
        for known in (ALL, just(0), just(5), just(16), span(0, 16), span(3, 9), span(4, 6), (1, 6, 2, 7, 2, 7)):
            things += [("number", known), ("pile", known), ("input", known), ("room", 0, known), ("room", 2, known)]
        return things

    def test_each_thing_within_each(self):
        for length in (span(0, 16), just(5), span(3, 9)):
            for one, other in itertools.product(self.things(), repeat=2):
                wanted = within(one, other, length)
                for place in (0, 5):
                    first = state([UNSET] * place + [one], asks=self.ASKS, length=length)
                    second = state([UNSET] * place + [other], asks=self.ASKS, length=span(0, 16))
                    self.assertIs(state_within(first, second), wanted, (one, other, length))
                for place in (0, 7):
                    first = state((), [UNSET] * place + [one], asks=self.ASKS, length=length)
                    second = state((), [UNSET] * place + [other], asks=self.ASKS, length=span(0, 16))
                    self.assertIs(state_within(first, second), wanted, (one, other, length))

    def test_the_length_is_that_of_the_one_that_is_to_lie_within(self):
        loose, sharp = span(0, 16), just(5)
        self.assertIs(state_within(state([LENGTH], length=sharp), state([number(just(5))], length=loose)), True)
        self.assertIs(state_within(state([LENGTH], length=loose), state([number(just(5))], length=loose)), False)
        self.assertIs(state_within(state([LENGTH], length=loose), state([number(loose)], length=loose)), True)
        self.assertIs(state_within(state([number(loose)], length=loose), state([LENGTH], length=loose)), False)
        self.assertIs(state_within(state([number(sharp)], length=sharp), state([LENGTH], length=sharp)), False)

    def test_length(self):
        self.assertIs(state_within(state(length=just(5)), state(length=span(0, 16))), True)
        self.assertIs(state_within(state(length=span(0, 16)), state(length=just(5))), False)
        self.assertIs(state_within(state(length=span(0, 16)), state(length=span(0, 16))), True)

    def test_asks_are_the_same(self):
        asks = [(), ((0, "rooms", True),), ((0, "rooms", False),), ((1, "rooms", True),), ((0, "halls", True),), ASKS]
        for one, other in itertools.product(asks, repeat=2):
            self.assertIs(state_within(state(asks=one), state(asks=other)), one == other)

    def test_all_boxes_and_cells_count(self):
        one = state([number(just(5))] * 6, [number(just(5))] * 8)
        other = state([number(span(3, 9))] * 6, [number(span(3, 9))] * 8)
        self.assertIs(state_within(one, other), True)
        self.assertIs(state_within(other, one), False)
        for part, many in ((0, 6), (1, 8)):
            for place in range(many):
                wrong = turned(one, part, turned(one[part], place, number(just(2))))
                self.assertIs(state_within(wrong, other), False)
                open_state = turned(one, part, turned(one[part], place, UNSET))
                self.assertIs(state_within(open_state, other), False)
                self.assertIs(state_within(one, turned(other, part, turned(other[part], place, UNSET))), True)

    def test_drawn(self):
        source = random.Random(19)
        for _ in range(400):
            known = [drawn_known(source, 16) for _ in range(3)]
            one, other = state([number(known[0])], length=known[2]), state([number(known[1])], length=ALL)
            self.assertIs(state_within(one, other), within(number(known[0]), number(known[1]), ALL))
            self.assertIs(state_within(one, one), True)
            one = turned(one, 0, (LENGTH,) + one[0][1:])
            self.assertIs(state_within(one, other), within(number(known[2]), number(known[1]), ALL))


class StateHolds(unittest.TestCase):
    def lent_runner(self, rows=(), given=(1, 2, 3)):
        runner = Runner(LEND + list(rows) + [("end",)], CONTRACT, shelves=SHELVES, given=given)
        for _ in range(len(LEND) + len(rows)):
            self.assertIs(runner.step(), True)
        return runner

    def test_numbers_and_length(self):
        runner = Runner([("set", 3, 7), ("end",)], CONTRACT, given=[5, 6])
        runner.step()
        boxes = [("pile", just(0)), ("input", just(0)), LENGTH, number(just(7))]
        self.assertIs(state_holds(state(boxes), runner), True)
        for place, right in ((0, ("pile", ALL)), (1, ("input", span(0, 3))), (2, number(just(2))), (2, number(ALL)),
                             (3, number(span(5, 9))), (3, UNSET), (0, UNSET), (4, UNSET)):
            self.assertIs(state_holds(state([UNSET] * place + [right]), runner), True, right)
        for place, wrong in ((0, ("pile", just(1))), (0, ("input", just(0))), (0, number(just(0))), (0, LENGTH),
                             (1, ("pile", just(0))), (1, ("input", span(1, 9))), (2, number(just(3))), (3, LENGTH),
                             (2, ("pile", just(2))), (3, number(span(8, 9))), (3, ("pile", ALL)), (4, number(ALL)),
                             (4, ("pile", ALL)), (4, LENGTH), (5, ("input", ALL))):
            self.assertIs(state_holds(state([UNSET] * place + [wrong]), runner), False, (place, wrong))

    def test_cells(self):
        runner = Runner([("store", 0, 7, ("worth", 9)), ("end",)], CONTRACT)
        runner.step()
        rest = [UNSET] * 7
        self.assertIs(state_holds(state((), rest + [number(just(9))]), runner), True)
        self.assertIs(state_holds(state((), rest + [number(just(8))]), runner), False)
        self.assertIs(state_holds(state((), [number(ALL)]), runner), False)
        self.assertIs(state_holds(state((), [UNSET] * 8), runner), True)

    def test_length_holds_the_number_of_cells(self):
        for many in (0, 1, 5, 16):
            runner = Runner([("end",)], CONTRACT, given=[3] * many)
            for length in (just(many), span(0, 16), ALL, span(many, 65535)):
                self.assertIs(state_holds(state(length=length), runner), True)
            for length in (just(many + 1), span(many + 1, 65535)):
                self.assertIs(state_holds(state(length=length), runner), False)

    def test_rooms_by_whatever_numbers(self):
        runner = self.lent_runner()
        self.assertEqual(runner.lent(), [(0, "rooms"), (1, "rooms")])
        for first, second in itertools.permutations(range(4), 2):
            asks = tuple(sorted([(first, "rooms", True), (second, "rooms", True)]))
            boxes = [UNSET] * 4 + [("room", first, just(0)), ("room", second, just(0))]
            self.assertIs(state_holds(state(boxes, asks=asks), runner), True)
            wrong = [UNSET] * 4 + [("room", first, just(0)), ("room", first, just(0))]
            self.assertIs(state_holds(state(wrong, asks=asks), runner), False)
            wrong = [UNSET] * 4 + [("room", first, just(1)), ("room", second, just(0))]
            self.assertIs(state_holds(state(wrong, asks=asks), runner), False)

    def test_unlike_askings_for_unlike_asks(self):
        rows = [("move", 5, 4)]
        runner = self.lent_runner(rows)
        asks = ((0, "rooms", True), (1, "rooms", True))
        rest = [UNSET] * 4
        self.assertIs(state_holds(state(rest + [("room", 0, ALL), ("room", 0, ALL)], asks=asks), runner), True)
        self.assertIs(state_holds(state(rest + [("room", 1, ALL), ("room", 1, ALL)], asks=asks), runner), True)
        self.assertIs(state_holds(state(rest + [("room", 0, ALL), ("room", 1, ALL)], asks=asks), runner), False)

    def test_no_other_asking_is_lent(self):
        runner = self.lent_runner()
        one = ((0, "rooms", True),)
        self.assertIs(state_holds(state(asks=()), runner), False)
        self.assertIs(state_holds(state(asks=one), runner), False)
        self.assertIs(state_holds(state(asks=one + ((1, "rooms", True),)), runner), True)
        self.assertIs(state_holds(state(asks=one + ((1, "rooms", False),)), runner), True)
        self.assertIs(state_holds(state(asks=one + ((1, "halls", True),)), runner), False)
        self.assertIs(state_holds(state(asks=one + ((1, "halls", False),)), runner), False)
        self.assertIs(state_holds(state(asks=one + ((1, "rooms", True), (2, "rooms", True))), runner), False)
        self.assertIs(state_holds(state(asks=one + ((1, "rooms", True), (2, "rooms", False))), runner), True)
        self.assertIs(state_holds(state(asks=one + ((1, "rooms", True), (2, "halls", False))), runner), True)
        none = Runner([("end",)], CONTRACT, shelves=SHELVES)
        self.assertIs(state_holds(state(asks=one), none), False)
        self.assertIs(state_holds(state(asks=((0, "rooms", False), (1, "rooms", False))), none), True)

    def test_maybe(self):
        there = self.lent_runner()
        asks = ((0, "rooms", False), (1, "rooms", True))
        rest = [UNSET] * 4
        self.assertIs(state_holds(state(rest + [("maybe", 0), ("room", 1, just(0))], asks=asks), there), True)
        self.assertIs(state_holds(state(rest + [("maybe", 0), ("maybe", 0)], asks=asks), there), False)
        asks = ((0, "rooms", False), (1, "rooms", False))
        self.assertIs(state_holds(state(rest + [("maybe", 1), ("maybe", 0)], asks=asks), there), True)
        moved = self.lent_runner([("do", "plus", 4, ("worth", 1))])
        self.assertIs(state_holds(state(rest + [("maybe", 0), ("maybe", 1)], asks=asks), moved), False)
        self.assertIs(state_holds(state(rest + [UNSET, ("maybe", 1)], asks=asks), moved), True)

    def test_maybe_nothing(self):
        nothing = Runner([("set", 1, 4), ("call", "find"), ("move", 4, 0), ("end",)], CONTRACT, shelves=SHELVES)
        for _ in range(3):
            nothing.step()
        asks = ((2, "rooms", False),)
        self.assertEqual(nothing.boxes()[0], ("number", 0))
        boxes = [("maybe", 2), UNSET, UNSET, UNSET, ("maybe", 2)]
        self.assertIs(state_holds(state(boxes, asks=asks), nothing), True)
        self.assertIs(state_holds(state([("maybe", 2), ("maybe", 2)], asks=asks), nothing), False)
        self.assertIs(state_holds(state([("room", 2, ALL)], asks=((2, "rooms", True),)), nothing), False)
        one = Runner([("set", 0, 1), ("end",)], CONTRACT)
        one.step()
        self.assertIs(state_holds(state([("maybe", 2)], asks=asks), one), False)
        # The length is 0 here, and a number as well as nothing.
        length = Runner([("move", 0, 2), ("end",)], CONTRACT)
        length.step()
        for thing in (LENGTH, ("maybe", 2), number(just(0))):
            self.assertIs(state_holds(state([thing], asks=asks), length), True)

    def test_maybe_is_the_same_in_all_places(self):
        rows = [("move", 4, 0), ("set", 1, 5), ("call", "find"), ("set", 5, 0), ("end",)]
        runner = Runner(rows, CONTRACT, shelves=SHELVES)
        for _ in range(4):
            runner.step()
        asks = ((0, "rooms", False),)
        boxes = [("maybe", 0), UNSET, UNSET, UNSET, UNSET, ("maybe", 0)]
        self.assertIs(state_holds(state(boxes, asks=asks), runner), False)
        asks = ((0, "rooms", False), (1, "rooms", False))
        boxes[5] = ("maybe", 1)
        self.assertIs(state_holds(state(boxes, asks=asks), runner), True)

    def test_more_lent_than_a_state_can_tell(self):
        rows = [("set", 1, 5), ("call", "find")] * 5
        runner = Runner(rows, CONTRACT, shelves=SHELVES)
        while runner.step():
            many = len(runner.lent())
            asks = tuple((ask, "rooms", True) for ask in range(min(many, 4)))
            self.assertIs(state_holds(state(asks=asks), runner), many <= 4)

    def test_many_lent_ones_are_not_dear(self):
        runner = Runner([("set", 1, 5), ("call", "find"), ("go", 0)], CONTRACT, shelves=SHELVES)
        for _ in range(300):
            runner.step()
        self.assertEqual(len(runner.lent()), 100)
        asks = tuple((ask, "rooms", False) for ask in range(4))
        lines, room = cost(lambda: self.assertIs(state_holds(state(asks=asks), runner), False))
        self.assertLess(lines, 10000)
        self.assertLess(room, 1000000)

    def test_each_step_of_drawn_runs(self):
        source = random.Random(20)
        for _ in range(60):
            given = [source.randrange(9) for _ in range(source.randrange(5))]
            program = long_program(source, CONTRACT, given, SHELVES, [1, 2], 40)
            runner = Runner(program, CONTRACT, given=given, shelves=SHELVES, answers=[1, 2])
            self.assertIs(state_holds(first_state(), runner), True)
            goes = True
            while goes and len(runner.lent()) <= 4:
                ahead = (runner.boxes(), runner.pile(), runner.lent(), runner.steps(), len(runner))
                right = right_state(source, runner)
                self.assertIs(is_state(CONTRACT, right), True, right)
                self.assertIs(state_holds(right, runner), True, (right, ahead))
                self.check_wrong(source, right, runner)
                self.assertEqual(ahead, (runner.boxes(), runner.pile(), runner.lent(), runner.steps(), len(runner)))
                goes = runner.step()

    def check_wrong(self, source, right, runner):
        """A state in which one number isn't held, or an ask is there too much or too little, holds it no more."""
        values = runner.boxes() + runner.pile()
        place = source.randrange(14)
        value = values[place]
        wrong = number(just(4)) if value is None else (value[0], just((value[-1] + 1) % 65536))
        if value is not None and value[0] == "room":
            wrong = number(ALL)
        things = turned(right[0] + right[1], place, wrong)
        self.assertIs(state_holds((things[:6], things[6:]) + right[2:], runner), False, (right, place, wrong))
        length = just(len(runner.given()) + 1)
        self.assertIs(state_holds(right[:3] + (length,), runner), False)
        used = [ask for ask, _, _ in right[2]]
        free = [ask for ask in range(4) if ask not in used]
        if free:
            asks = tuple(sorted(right[2] + ((free[0], "rooms", True),)))
            if len(asks) > len(runner.lent()) and all(sure for _, _, sure in asks):
                self.assertIs(state_holds(right[:2] + (asks, right[3]), runner), False)


if __name__ == "__main__":
    unittest.main()
