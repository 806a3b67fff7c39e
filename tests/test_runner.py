"""Points [15], [16] and [17], with the interface's "boundgate/runner.py"."""

import copy
import inspect
import random
import unittest

from boundgate import runner as module
from boundgate.errors import Bare, GateError, NoInput
from boundgate.runner import MOST_STEPS, Runner, run
from boundgate.worths import ASKS, DEEDS, asked, done
from tests.drawn import EDGES, drawn_program
from tests.plain import CALLS, CONTRACT, SHELVES, PlainRun, long_program
from tests.things import odd_things, shape

NONE = {"rooms": {}, "halls": {}}
START = [("pile", 0), ("input", 0), ("number", 0), None, None, None]
METHODS = ("step", "row", "boxes", "pile", "steps", "lent", "given", "told", "back", "twin", "__len__")


def number(worth):
    return ("number", worth)


def worth(worth_of):
    return ("worth", worth_of)


def box(which):
    return ("box", which)


def all_told(runner):
    """All that a Runner tells."""
    return copy.deepcopy((
        runner.row(), runner.boxes(), runner.pile(), runner.steps(), runner.lent(), runner.given(), runner.told(),
        len(runner),
    ))


def shelves_copy():
    return copy.deepcopy(SHELVES)


# Rows that lend the rooms with the keys 5 and 0 to box 4 and box 5, and box 0 has a number then.
LEND = [
    ("set", 1, 5), ("call", "find"), ("move", 4, 0), ("set", 1, 0), ("call", "find"), ("move", 5, 0), ("set", 0, 0),
]


class Checks(unittest.TestCase):
    def ends(self, rows, word, what=None, steps=None, given=(), shelves=None, answers=()):
        """How a run of rows ends; steps are all rows where nothing is told."""
        told = run(rows, CONTRACT, given=given, shelves=shelves, answers=answers)
        self.assertEqual(told[:3], (word, what, len(rows) if steps is None else steps), rows)
        runner = Runner(rows, CONTRACT, given=given, shelves=shelves, answers=answers)
        while runner.step():
            self.assertIsNone(runner.told())
        self.assertEqual(runner.told(), told)
        return told

    def stands(self, rows, given=(), shelves=None, answers=()):
        """A Runner that has done all rows without a fault, each once."""
        runner = Runner(rows + [("end",)], CONTRACT, given=given, shelves=shelves, answers=answers)
        for place in range(len(rows)):
            self.assertEqual(runner.row(), place)
            self.assertIs(runner.step(), True, (place, runner.told()))
        return runner


class Interface(unittest.TestCase):
    def test_arguments_by_place_and_by_name(self):
        by_name = {"given": (), "shelves": None, "answers": ()}
        self.assertEqual(shape(run), (["program", "contract"], {**by_name, "most": 1000}))
        self.assertEqual(shape(Runner), (["program", "contract"], by_name))
        self.assertEqual(MOST_STEPS, 1000)
        for name in METHODS:
            self.assertIn(name, vars(Runner))
            self.assertEqual(list(inspect.signature(vars(Runner)[name]).parameters), ["self"])

    def test_defined_in_the_file(self):
        for name in ("run", "Runner"):
            self.assertEqual(getattr(module, name).__module__, "boundgate.runner")

    def test_by_names(self):
        rows = [("load", 0, 1, 0), ("end",)]
        told = run(contract=CONTRACT, program=rows, most=9, answers=[1], shelves=NONE, given=[8])
        self.assertEqual(told, ("end", 8, 2, NONE))
        runner = Runner(contract=CONTRACT, program=rows, answers=(), shelves=None, given=(8,))
        self.assertEqual(runner.given(), [8])
        for action in (lambda: run(rows, CONTRACT, [8]), lambda: Runner(rows, CONTRACT, [8])):
            with self.assertRaises(TypeError):
                action()

    def test_kinds_of_what_is_told(self):
        told = run([("set", 0, 1), ("end",)], CONTRACT)
        self.assertEqual([type(part) for part in told], [tuple, str, int, int, dict][1:])
        self.assertIs(type(told), tuple)
        runner = Runner([("set", 0, 1), ("end",)], CONTRACT)
        self.assertIsNone(runner.told())
        for part in (runner.boxes(), runner.pile(), runner.lent(), runner.given()):
            self.assertIs(type(part), list)
        self.assertIs(runner.step(), True)
        self.assertIs(runner.step(), False)
        self.assertIsNone(runner.back())
        self.assertIs(type(runner.twin()), Runner)


class Start(Checks):
    def test_at_first(self):
        for given in ((), [], [7], (1, 2, 3), list(range(16)), [65535] * 16):
            runner = Runner([("end",)], CONTRACT, given=given)
            self.assertEqual(runner.boxes(), START[:2] + [number(len(given))] + START[3:])
            self.assertEqual(runner.pile(), [None] * 8)
            self.assertEqual((runner.row(), runner.steps(), len(runner)), (0, 0, 0))
            self.assertEqual(runner.lent(), [])
            self.assertEqual(runner.given(), list(given))
            self.assertIsNone(runner.told())

    def test_without_shelves_there_are_none_in_them(self):
        self.assertEqual(run([("set", 0, 1), ("end",)], CONTRACT)[3], NONE)
        self.assertEqual(run([("set", 0, 1), ("end",)], ([], []))[3], {})
        self.assertEqual(run([("set", 0, 1), ("end",)], CONTRACT, shelves=SHELVES)[3], SHELVES)


class Rows(Checks):
    def test_set_and_move(self):
        runner = self.stands([("set", 3, 65535), ("move", 5, 3), ("move", 4, 0), ("move", 0, 1), ("move", 2, 2)])
        self.assertEqual(runner.boxes(), [
            ("input", 0), ("input", 0), number(0), number(65535), ("pile", 0), number(65535)])

    def test_deeds_of_numbers(self):
        for word in DEEDS:
            for one in EDGES:
                for other in (0, 1, 3, 16, 255, 32768, 65535):
                    rows = [("set", 4, one), ("do", word, 4, worth(other)), ("move", 0, 4), ("end",)]
                    self.ends(rows, "end", done(word, one, other))
                    rows = [("set", 0, one), ("set", 5, other), ("do", word, 0, box(5)), ("end",)]
                    self.ends(rows, "end", done(word, one, other))
        self.ends([("set", 0, 40000), ("do", "plus", 0, box(0)), ("end",)], "end", 14464)

    def test_pointers_are_moved_and_go_round(self):
        runner = self.stands([
            ("do", "plus", 0, worth(3)), ("do", "minus", 1, worth(1)), ("set", 3, 2), ("move", 4, 0),
            ("do", "minus", 4, box(3)), ("do", "plus", 1, worth(65535)), ("do", "minus", 0, worth(65535)),
        ])
        self.assertEqual(runner.boxes()[:2] + runner.boxes()[4:5], [("pile", 4), ("input", 65534), ("pile", 1)])
        runner = self.stands(LEND + [("do", "minus", 4, worth(1)), ("do", "plus", 5, worth(65535))], shelves=SHELVES)
        self.assertEqual(runner.boxes()[4:], [("room", 0, 65535), ("room", 1, 65535)])

    def test_jumps_of_numbers(self):
        for word in ASKS:
            for one in EDGES:
                for other in (0, 1, 3, 32767, 32768, 65535):
                    rows = [
                        ("set", 0, one), ("jump", word, 0, worth(other), 4), ("set", 0, 10), ("end",), ("set", 0, 20),
                        ("end",),
                    ]
                    self.ends(rows, "end", 20 if asked(word, one, other) else 10, 4)

    def test_jumps_of_pointers_and_nought(self):
        for pointer in (0, 1):
            for word, what in (("same", 10), ("unlike", 20)):
                rows = [
                    ("set", 3, 0), ("jump", word, pointer, box(3), 4), ("set", 0, 10), ("end",), ("set", 0, 20),
                    ("end",),
                ]
                self.ends(rows, "end", what, 4)
                rows[1] = ("jump", word, pointer, worth(0), 4)
                self.ends(rows, "end", what, 4)
        rows = LEND + [("jump", "unlike", 4, worth(0), 9), ("end",), ("do", "plus", 5, worth(1))]
        rows += [("jump", "same", 5, worth(0), 8)]
        self.ends(rows, "off", None, 10, shelves=SHELVES)

    def test_go_also_back(self):
        self.ends([("go", 2), ("end",), ("set", 0, 4), ("go", 1)], "end", 4, 4)

    def test_load_and_store_of_the_pile(self):
        rows = [("set", 3, 77)]
        for place in range(8):
            rows += [("store", 0, place, box(3)), ("do", "plus", 3, worth(1))]
        runner = self.stands(rows)
        self.assertEqual(runner.pile(), [number(77 + place) for place in range(8)])
        rows += [("do", "plus", 0, worth(8)), ("load", 4, 0, -8), ("load", 5, 0, -1), ("store", 0, -2, worth(65535))]
        rows += [("store", 0, -3, box(1)), ("store", 0, -4, box(0)), ("load", 3, 0, -3)]
        runner = self.stands(rows)
        self.assertEqual(runner.boxes()[3:], [("input", 0), number(77), number(84)])
        self.assertEqual(runner.pile()[4:7], [("pile", 8), ("input", 0), number(65535)])

    def test_load_of_the_input(self):
        for many in (1, 2, 16):
            given = [1000 + place for place in range(many)]
            for place in range(many):
                self.ends([("load", 0, 1, place), ("end",)] if place < 16 else [], "end", 1000 + place, given=given)
            self.ends([("do", "plus", 1, worth(many + 7)), ("load", 0, 1, -8), ("end",)], "end", 999 + many,
                      given=given)

    def test_reaching_goes_round(self):
        self.ends([("do", "minus", 1, worth(1)), ("load", 0, 1, 1), ("end",)], "end", 44, given=[44])
        rows = [("do", "minus", 0, worth(5)), ("store", 0, 12, worth(9)), ("load", 0, 0, 12), ("end",)]
        self.ends(rows, "end", 9)

    def test_rooms_are_read_and_written(self):
        rows = LEND + [
            ("load", 3, 4, 0), ("store", 4, 3, box(3)), ("store", 5, 0, worth(12)), ("load", 0, 5, 0),
            ("do", "plus", 4, worth(2)), ("store", 4, -1, worth(8)),
        ]
        runner = self.stands(rows, shelves=SHELVES)
        self.assertEqual(runner.boxes()[0], number(12))
        self.assertEqual(runner.lent(), [(0, "rooms"), (1, "rooms")])
        told = self.ends(rows + [("end",)], "kept", shelves=SHELVES)
        self.assertEqual(told[3]["rooms"], {0: [12, 2, 3, 4], 5: [9, 8, 65535, 9], 7: [0, 0, 0, 0]})

    def test_end(self):
        self.ends([("move", 0, 2), ("end",)], "end", 3, given=[5, 5, 5])
        told = self.ends([("set", 0, 65535), ("end",), ("end",)], "end", 65535, 2, shelves=SHELVES)
        self.assertEqual(told[3], SHELVES)


class Calls(Checks):
    def test_numbers_given(self):
        rows = [("call", "ask"), ("end",)]
        for answer, what in ((0, 10), (1, 11), (2, 12), (3, 10), (-1, 12), (10 ** 59, 10 + 10 ** 59 % 3)):
            self.ends(rows, "end", what, answers=[answer])
            self.ends(rows, "end", what, answers=(answer, 1))
        self.ends(rows, "end", 10)
        self.ends(rows, "end", 10, answers=[])

    def test_answers_come_over_and_over(self):
        rows = []
        for place in range(7):
            rows += [("move", 5, 0)] if place == 0 else []
            rows += [("call", "ask"), ("move", 4, 0), ("store", 5, place, box(4))]
        runner = self.stands(rows, answers=[1, 2, 0])
        self.assertEqual(runner.pile()[:7], [number(10 + k) for k in (1, 2, 0, 1, 2, 0, 1)])

    def test_just_calls_that_give_numbers_use_answers(self):
        rows = [
            ("set", 1, 5), ("call", "find"), ("move", 1, 0), ("call", "back"), ("set", 1, 4), ("call", "find"),
            ("call", "ask"), ("end",),
        ]
        self.ends(rows, "end", 11, shelves=SHELVES, answers=[1, 2])

    def test_a_call_that_faults_uses_none(self):
        runner = Runner([("call", "tell"), ("end",)], CONTRACT, answers=[1, 2])
        self.assertIs(runner.step(), False)
        self.assertEqual(runner.told()[:3], ("call", None, 1))

    def test_boxes_behind_a_call(self):
        rows = [("set", 3, 1), ("set", 4, 2), ("set", 5, 3), ("store", 0, 0, worth(4)), ("call", "ask")]
        runner = self.stands(rows)
        self.assertEqual(runner.boxes(), [number(10), None, None, None, number(2), number(3)])
        self.assertEqual(runner.pile(), [number(4)] + [None] * 7)

    def test_takes_of_numbers(self):
        for key, word in ((0, "off"), (9, "off"), (10, "call"), (65535, "call")):
            self.ends([("set", 1, key), ("call", "hall")], word)
        self.ends([("call", "hall")], "call")
        self.ends([("move", 1, 0), ("call", "hall")], "call")
        self.ends([("move", 1, 3), ("call", "hall")], "unset", None, 1)
        self.ends([("call", "ask"), ("call", "hall")], "unset")

    def test_takes_of_cells(self):
        tell = [("move", 2, 1), ("set", 1, 255), ("call", "tell")]
        self.ends(tell, "off", given=[1, 2])
        self.ends(tell, "call", given=[1])
        self.ends(tell, "call")
        for step, word in ((0, "off"), (1, "off"), (2, "call"), (65535, "call"), (65534, "call")):
            self.ends([("do", "plus", 1, worth(step))] + tell, word, given=[1, 2, 3])
        pile = [("move", 2, 0), ("set", 1, 0), ("call", "tell")]
        store = [("store", 0, 6, worth(1)), ("store", 0, 7, worth(1))]
        self.ends(store + [("do", "plus", 0, worth(6))] + pile, "off")
        self.ends(store + [("do", "plus", 0, worth(7))] + pile, "call")
        self.ends(store + [("do", "plus", 0, worth(5))] + pile, "call")
        self.ends(store[:1] + [("store", 0, 7, box(1)), ("do", "plus", 0, worth(6))] + pile, "call")
        room = [("move", 2, 4), ("set", 1, 0), ("call", "tell")]
        for step, word in ((0, "off"), (2, "off"), (3, "call"), (65535, "call")):
            self.ends(LEND + [("do", "plus", 4, worth(step))] + room, word, shelves=SHELVES)
        self.ends([("set", 1, 1), ("set", 2, 1), ("call", "tell")], "call")

    def test_eight_cells(self):
        store = [("store", 0, place, worth(place)) for place in range(8)]
        rest = [("move", 1, 0), ("move", 2, 0), ("move", 3, 4), ("call", "look"), ("end",)]
        lend = [("move", 5, 0)] + LEND[:3] + [("move", 0, 5)]
        self.ends(lend + store + rest, "kept", shelves=SHELVES)
        self.ends(lend + store[:7] + rest[:-1], "call", shelves=SHELVES)
        self.ends(lend + store + rest[:2] + rest[3:-1], "unset", shelves=SHELVES)

    def test_takes_of_rooms(self):
        back = [("move", 1, 4), ("call", "back")]
        self.ends(LEND + back, "off", shelves=SHELVES)
        for step in (1, 3, 65535):
            self.ends(LEND + [("do", "plus", 4, worth(step))] + back, "call", shelves=SHELVES)
        self.ends(LEND + [("do", "plus", 4, worth(1)), ("do", "minus", 4, worth(1))] + back, "off", shelves=SHELVES)
        self.ends([("set", 1, 3), ("call", "hall"), ("move", 1, 0), ("call", "back")], "call", shelves=SHELVES)
        self.ends([("set", 1, 0), ("call", "back")], "call", shelves=SHELVES)
        self.ends([("move", 1, 0), ("call", "back")], "call", shelves=SHELVES)
        self.ends([("set", 1, 4), ("call", "find"), ("move", 1, 0), ("call", "back")], "call", shelves=SHELVES)
        hall = [("set", 1, 3), ("call", "hall"), ("move", 1, 0)]
        self.ends(hall + [("set", 2, 3), ("call", "leave")], "off", shelves=SHELVES)
        self.ends(hall + [("set", 2, 4), ("call", "leave")], "call", shelves=SHELVES)

    def test_the_first_take_that_is_not_good_counts(self):
        self.ends([("call", "ask"), ("call", "tell")], "unset")
        self.ends([("call", "ask"), ("set", 1, 256), ("call", "tell")], "call")
        self.ends([("call", "ask"), ("set", 1, 255), ("call", "tell")], "unset")
        self.ends([("call", "ask"), ("set", 2, 7), ("call", "tell")], "unset")
        self.ends([("call", "ask"), ("move", 2, 0), ("set", 1, 1), ("call", "tell")], "call")

    def test_no_such_call_goes_ahead_of_all(self):
        self.ends([("call", "nowhere")], "call")
        self.ends([("call", "ask"), ("call", "nowhere")], "call")
        told = run([("call", "ask")], ([], []))
        self.assertEqual(told, ("call", None, 1, {}))

    def test_lent_or_nothing(self):
        runner = self.stands([("set", 1, 5), ("call", "find")], shelves=SHELVES)
        self.assertEqual(runner.boxes(), [("room", 0, 0)] + [None] * 5)
        self.assertEqual(runner.lent(), [(0, "rooms")])
        runner = self.stands([("set", 1, 6), ("call", "find")], shelves=SHELVES)
        self.assertEqual(runner.boxes(), [number(0)] + [None] * 5)
        self.assertEqual(runner.lent(), [])

    def test_askings_are_counted_also_those_that_find_nothing(self):
        rows = []
        for key in (6, 5, 6, 5, 0):
            rows += [("set", 1, key), ("call", "find")]
        runner = self.stands(rows + [("set", 1, 3), ("call", "hall")], shelves=SHELVES)
        self.assertEqual(runner.boxes()[0], ("room", 5, 0))
        self.assertEqual(runner.lent(), [(1, "rooms"), (3, "rooms"), (4, "rooms"), (5, "halls")])

    def test_the_same_room_by_two_askings(self):
        rows = [
            ("move", 5, 0), ("set", 1, 5), ("call", "find"), ("move", 4, 0), ("store", 5, 0, box(4)),
            ("set", 1, 5), ("call", "find"), ("store", 5, 1, box(0)), ("store", 4, 0, worth(33)), ("load", 3, 0, 0),
        ]
        runner = self.stands(rows, shelves=SHELVES)
        self.assertEqual(runner.boxes()[3], number(33))
        rows += [("do", "plus", 4, worth(2)), ("load", 1, 5, 0), ("call", "back")]
        runner = self.stands(rows, shelves=SHELVES)
        self.assertEqual(runner.boxes(), [number(0), None, None, None, None, ("pile", 0)])
        self.assertEqual(runner.pile(), [None, ("room", 1, 0)] + [None] * 6)
        self.assertEqual(runner.lent(), [(1, "rooms")])
        rows += [("load", 1, 5, 1), ("load", 4, 5, 1), ("call", "back")]
        runner = self.stands(rows, shelves=SHELVES)
        self.assertEqual(runner.pile(), [None] * 8)
        self.assertEqual(runner.boxes(), [number(0), None, None, None, None, ("pile", 0)])
        told = self.ends(rows + [("end",)], "end", 0, shelves=SHELVES)
        self.assertEqual(told[3]["rooms"][5], [33, 0, 65535, 7])

    def test_calls_write_no_cells(self):
        rows = [("store", 0, 0, worth(1)), ("store", 0, 1, worth(2)), ("move", 2, 0), ("set", 1, 5), ("call", "tell")]
        runner = self.stands(rows, answers=[6])
        self.assertEqual(runner.pile(), [number(1), number(2)] + [None] * 6)
        self.assertEqual(runner.boxes()[0], number(6))


class Faults(Checks):
    def test_unset(self):
        for row in (
            ("move", 0, 3), ("move", 3, 3), ("do", "plus", 3, worth(1)), ("do", "plus", 2, box(3)),
            ("jump", "same", 3, worth(0), 0), ("jump", "same", 2, box(3), 0), ("load", 0, 3, 0),
            ("store", 3, 0, worth(1)), ("store", 0, 0, box(3)), ("load", 3, 0, 0), ("load", 3, 0, 7),
        ):
            self.ends([row], "unset")
        self.ends([("set", 1, 1), ("call", "hall"), ("move", 0, 1), ("end",)], "unset", None, 3)
        rows = LEND[:3] + [("move", 1, 4), ("call", "back"), ("move", 0, 4)]
        self.ends(rows, "unset", shelves=SHELVES)

    def test_kind(self):
        for row in (
            ("do", "plus", 2, box(0)), ("do", "plus", 0, box(1)), ("do", "minus", 0, box(0)),
            ("do", "times", 0, worth(1)), ("do", "and", 1, worth(1)), ("do", "or", 0, worth(0)),
            ("do", "either", 0, worth(0)), ("do", "left", 0, worth(0)), ("do", "right", 1, worth(0)),
            ("do", "times", 2, box(0)), ("do", "minus", 2, box(1)),
            ("jump", "same", 0, box(1), 0), ("jump", "same", 0, box(0), 0), ("jump", "unlike", 2, box(0), 0),
            ("jump", "same", 0, worth(1), 0), ("jump", "unlike", 0, worth(65535), 0),
            ("jump", "under", 0, worth(0), 0), ("jump", "bits", 1, worth(0), 0), ("jump", "upto", 0, worth(0), 0),
            ("load", 0, 2, 0), ("store", 2, 0, worth(1)), ("load", 3, 2, 15),
        ):
            self.ends([row], "kind")
        for word in ASKS:
            if word not in ("same", "unlike"):
                self.ends([("jump", word, 0, worth(0), 0)], "kind")
        for word in DEEDS:
            self.ends([("do", word, 2, box(1))], "kind")

    def test_outside(self):
        for off in (-8, -1, 8, 15):
            self.ends([("load", 3, 0, off)], "outside")
            self.ends([("store", 0, off, worth(1))], "outside")
        for many in (0, 1, 5, 15):
            given = [7] * many
            self.ends([("load", 3, 1, many)], "outside", given=given)
            self.ends([("store", 1, many, worth(1))], "outside", given=given)
            self.ends([("load", 3, 1, -1)], "outside", given=given)
        self.ends([("do", "plus", 1, worth(1)), ("load", 3, 1, 15)], "outside", given=[7] * 16)
        for off in (-1, 4, 15):
            self.ends(LEND + [("load", 3, 4, off)], "outside", shelves=SHELVES)
            self.ends(LEND + [("store", 5, off, worth(1))], "outside", shelves=SHELVES)
        self.ends([("set", 1, 3), ("call", "hall"), ("load", 3, 0, 2)], "outside", shelves=SHELVES)

    def test_write(self):
        self.ends([("store", 1, 0, worth(1))], "write", given=[1])
        self.ends([("store", 1, 0, box(0))], "write", given=[1])

    def test_out(self):
        self.ends([("end",)], "out")
        self.ends([("move", 0, 1), ("end",)], "out")
        for pointer in (4, 5):
            self.ends(LEND + [("store", 4, 0, box(pointer))], "out", shelves=SHELVES)
        self.ends([("move", 5, 0)] + LEND[:3] + [("store", 4, 0, box(5))], "out", shelves=SHELVES)

    def test_kept(self):
        self.ends(LEND + [("end",)], "kept", shelves=SHELVES)
        self.ends(LEND + [("move", 1, 4), ("call", "back"), ("end",)], "kept", shelves=SHELVES)
        rows = LEND + [("move", 1, 4), ("call", "back"), ("move", 1, 5), ("call", "back"), ("end",)]
        self.ends(rows, "end", 0, shelves=SHELVES)

    def test_off_is_no_row_done(self):
        self.ends([("set", 0, 1)], "off", None, 1)
        self.ends([("jump", "same", 2, worth(0), 0)], "off", None, 1, given=[1])
        runner = Runner([("set", 0, 1)], CONTRACT)
        self.assertIs(runner.step(), True)
        self.assertEqual(runner.row(), 1)
        self.assertIs(runner.step(), False)
        self.assertIsNone(runner.row())
        self.assertEqual((runner.steps(), len(runner)), (1, 2))
        self.assertEqual(runner.told(), ("off", None, 1, NONE))

    def test_the_first_that_is_due(self):
        # Unset goes ahead of kind and outside, kind ahead of outside, outside ahead of unset cells, write, out.
        self.ends([("do", "times", 0, box(3))], "unset")
        self.ends([("do", "plus", 3, box(0))], "unset")
        self.ends([("jump", "under", 0, box(3), 0)], "unset")
        self.ends([("store", 2, 0, box(3))], "unset")
        self.ends([("store", 0, 9, box(3))], "unset")
        self.ends([("store", 1, 0, box(3))], "unset", given=[1])
        self.ends([("store", 2, 15, worth(0))], "kind")
        self.ends([("store", 1, 1, box(0))], "outside", given=[1])
        self.ends([("load", 3, 0, 8)], "outside")
        self.ends(LEND + [("store", 4, 4, box(5))], "outside", shelves=SHELVES)
        self.ends(LEND[:2] + [("end",)], "out", shelves=SHELVES)

    def test_a_fault_leaves_all_as_it_was(self):
        rows = LEND + [("store", 4, 0, worth(1)), ("store", 4, 9, worth(1)), ("end",)]
        runner = Runner(rows, CONTRACT, shelves=SHELVES, given=[3])
        for _ in range(8):
            runner.step()
        ahead = (runner.boxes(), runner.pile(), runner.lent())
        self.assertIs(runner.step(), False)
        self.assertEqual((runner.boxes(), runner.pile(), runner.lent()), ahead)
        self.assertEqual(runner.told()[:3], ("outside", None, 9))
        self.assertEqual(runner.told()[3]["rooms"][5], [1, 0, 65535, 7])


class Over(Checks):
    ROUND = [("set", 0, 1), ("go", 0)]

    def test_most_rows(self):
        self.assertEqual(run(self.ROUND, CONTRACT), ("over", None, 1000, NONE))
        for most in (0, 1, 2, 17, 1001, 3000):
            self.assertEqual(run(self.ROUND, CONTRACT, most=most), ("over", None, most, NONE))

    def test_the_last_row_has_its_own_end(self):
        rows = [("set", 0, 1), ("set", 0, 2), ("end",)]
        self.assertEqual(run(rows, CONTRACT, most=3)[:3], ("end", 2, 3))
        self.assertEqual(run(rows, CONTRACT, most=2)[:3], ("over", None, 2))
        rows = [("set", 0, 1), ("load", 0, 3, 0)]
        self.assertEqual(run(rows, CONTRACT, most=2)[:3], ("unset", None, 2))
        self.assertEqual(run(rows, CONTRACT, most=1)[:3], ("over", None, 1))

    def test_over_goes_ahead_of_off(self):
        rows = [("set", 0, 1), ("set", 0, 2)]
        self.assertEqual(run(rows, CONTRACT, most=2)[:3], ("over", None, 2))
        self.assertEqual(run(rows, CONTRACT, most=3)[:3], ("off", None, 2))

    def test_exactly_a_thousand(self):
        # Box 2 counts the rounds; each has two rows, and two more come behind.
        rows = [("do", "plus", 2, worth(1)), ("jump", "under", 2, worth(499), 0), ("set", 0, 1), ("end",)]
        self.assertEqual(run(rows, CONTRACT)[:3], ("end", 1, 1000))
        rows[1] = ("jump", "under", 2, worth(500), 0)
        self.assertEqual(run(rows, CONTRACT)[:3], ("over", None, 1000))
        self.assertEqual(run(rows, CONTRACT, most=1002)[:3], ("end", 1, 1002))

    def test_a_runner_has_no_such_end(self):
        runner = Runner(self.ROUND, CONTRACT)
        for _ in range(2500):
            self.assertIs(runner.step(), True)
        self.assertEqual((runner.steps(), len(runner)), (2500, 2500))

    def test_what_was_stored_is_told(self):
        told = run(LEND + [("store", 4, 0, worth(1)), ("go", 8)], CONTRACT, shelves=SHELVES, most=50)
        self.assertEqual(told[:3], ("over", None, 50))
        self.assertEqual(told[3]["rooms"][5], [1, 0, 65535, 7])


class Drawn(Checks):
    def hand_in(self, source):
        given = [source.choice(EDGES) for _ in range(source.choice((0, 1, 2, 3, 8, 16)))]
        answers = [source.choice((-1, 0, 1, 2, 6, 7, 10 ** 30)) for _ in range(source.randrange(4))]
        shelves = shelves_copy() if source.random() < 0.8 else copy.deepcopy(NONE)
        return given, shelves, answers

    def compare(self, program, given, shelves, answers, most=300):
        runner = Runner(program, CONTRACT, given=given, shelves=shelves, answers=answers)
        plain = PlainRun(program, CONTRACT, given, shelves, answers)
        goes = True
        for _ in range(most):
            self.assertEqual(runner.row(), plain.now["row"])
            self.assertEqual(runner.boxes(), plain.now["boxes"])
            self.assertEqual(runner.pile(), plain.now["pile"])
            self.assertEqual(runner.lent(), plain.lent())
            self.assertEqual(runner.steps(), plain.now["steps"])
            self.assertEqual(runner.told(), plain.told())
            if not goes:
                break
            goes = plain.step()
            self.assertIs(runner.step(), goes)
        told = run(program, CONTRACT, given=given, shelves=shelves, answers=answers, most=most)
        if goes:
            self.assertEqual(told[:3], ("over", None, most))
        else:
            self.assertEqual(told, plain.told())
        return runner

    def test_step_by_step(self):
        source = random.Random(15)
        for _ in range(300):
            given, shelves, answers = self.hand_in(source)
            self.compare(drawn_program(source, CALLS), given, shelves, answers)

    def test_long_runs_step_by_step(self):
        source = random.Random(16)
        words = set()
        for _ in range(120):
            given, shelves, answers = self.hand_in(source)
            program = long_program(source, CONTRACT, given, shelves, answers, source.choice((10, 30, 60)))
            for _ in range(2):
                runner = self.compare(program, given, shelves, answers)
                self.assertGreaterEqual(runner.steps(), len(program))
                program[-1] = ("end",)
            for _ in range(3):
                self.compare(program, *self.hand_in(source))
            words.add(runner.told()[0])
        self.assertGreater(len(words), 2)

    def test_what_was_handed_in_stays(self):
        source = random.Random(17)
        for _ in range(60):
            given, shelves, answers = self.hand_in(source)
            program = long_program(source, CONTRACT, given, shelves, answers, 30)
            ahead = copy.deepcopy((program, CONTRACT, given, shelves, answers))
            self.compare(program, given, shelves, answers)
            self.assertEqual((program, CONTRACT, given, shelves, answers), ahead)

    def test_taken_back_step_by_step(self):
        source = random.Random(18)
        for _ in range(60):
            given, shelves, answers = self.hand_in(source)
            program = long_program(source, CONTRACT, given, shelves, answers, 40)
            runner = Runner(program, CONTRACT, given=given, shelves=shelves, answers=answers)
            stood = [all_told(runner)]
            rooms = [copy.deepcopy(runner.twin().machine.rooms)]
            while runner.step():
                stood.append(all_told(runner))
                rooms.append(copy.deepcopy(runner.machine.rooms))
            last = all_told(runner)
            for wanted, wanted_rooms in zip(reversed(stood), reversed(rooms)):
                self.assertIsNone(runner.back())
                self.assertEqual(all_told(runner), wanted)
                self.assertEqual(runner.machine.rooms, wanted_rooms)
            with self.assertRaises(Bare):
                runner.back()
            self.assertEqual(all_told(runner), stood[0])
            while runner.step():
                pass
            self.assertEqual(all_told(runner), last)


class BackAndTwin(Checks):
    ROWS = LEND + [("store", 4, 0, worth(1)), ("call", "ask"), ("store", 4, 0, box(0)), ("set", 0, 3), ("end",)]

    def test_bare(self):
        runner = Runner(self.ROWS, CONTRACT)
        with self.assertRaises(Bare) as caught:
            runner.back()
        self.assertIs(type(caught.exception), Bare)
        self.assertIsInstance(caught.exception, GateError)
        runner.step()
        runner.back()
        with self.assertRaises(Bare):
            runner.back()
        self.assertEqual((runner.row(), len(runner)), (0, 0))

    def test_back_from_the_end_and_from_faults(self):
        for rows in ([("set", 0, 3), ("end",)], [("set", 0, 3), ("load", 0, 3, 0)], [("set", 0, 3)]):
            runner = Runner(rows, CONTRACT)
            runner.step()
            ahead = all_told(runner)
            self.assertIs(runner.step(), False)
            behind = all_told(runner)
            self.assertIsNone(behind[0])
            self.assertIsNotNone(behind[6])
            runner.back()
            self.assertEqual(all_told(runner), ahead)
            self.assertIs(runner.step(), False)
            self.assertEqual(all_told(runner), behind)

    def test_a_step_behind_the_end_does_nothing(self):
        runner = Runner([("set", 0, 3), ("end",)], CONTRACT)
        runner.step()
        runner.step()
        ahead = all_told(runner)
        for _ in range(3):
            self.assertIs(runner.step(), False)
        self.assertEqual(all_told(runner), ahead)
        self.assertEqual(len(runner), 2)
        runner.back()
        self.assertEqual((runner.row(), len(runner)), (1, 1))

    def test_len(self):
        runner = Runner([("set", 0, 3), ("set", 0, 3)], CONTRACT)
        for many in (1, 2, 3):
            runner.step()
            self.assertEqual(len(runner), many)
        self.assertEqual(runner.steps(), 2)
        runner.step()
        self.assertEqual(len(runner), 3)

    def test_answers_are_taken_back(self):
        runner = Runner([("call", "ask"), ("call", "ask"), ("end",)], CONTRACT, answers=[1, 2])
        runner.step()
        self.assertEqual(runner.boxes()[0], number(11))
        runner.back()
        runner.step()
        self.assertEqual(runner.boxes()[0], number(11))
        runner.step()
        self.assertEqual(runner.boxes()[0], number(12))

    def test_askings_are_taken_back(self):
        runner = Runner(LEND, CONTRACT, shelves=SHELVES)
        runner.step()
        runner.step()
        runner.back()
        self.assertEqual(runner.lent(), [])
        runner.step()
        self.assertEqual(runner.boxes()[0], ("room", 0, 0))

    def test_what_was_written_to_a_room_is_taken_back(self):
        rows = LEND + [
            ("load", 3, 4, 0), ("do", "plus", 3, worth(1)), ("store", 4, 0, box(3)), ("set", 0, 1), ("go", 7)]
        runner = Runner(rows, CONTRACT, shelves=SHELVES)
        for _ in range(8):
            runner.step()
        for what in range(9, 15):
            self.assertEqual((runner.row(), runner.boxes()[3]), (8, number(what)))
            # The store is done, taken back and done again: just the last time counts.
            for _ in range(2):
                runner.step()
            runner.back()
            runner.back()
            for _ in range(2):
                runner.step()
            # A step that wrote nothing is taken back: what was stored stays.
            runner.step()
            runner.back()
            for _ in range(3):
                runner.step()
        while len(runner) > 8:
            runner.back()
        self.assertEqual((runner.row(), runner.boxes()[3]), (8, number(9)))
        runner.back()
        runner.step()
        self.assertEqual(runner.boxes()[3], number(9))

    def test_a_twin_goes_on_by_itself(self):
        for many in range(len(self.ROWS) + 1):
            runner = Runner(self.ROWS, CONTRACT, shelves=SHELVES, answers=[1, 2], given=[4])
            for _ in range(many):
                runner.step()
            ahead = all_told(runner)
            twin = runner.twin()
            self.assertEqual(all_told(twin), ahead)
            while twin.step():
                self.assertEqual(all_told(runner), ahead)
            end = all_told(twin)
            self.assertEqual(all_told(runner), ahead)
            while len(twin):
                twin.back()
            self.assertEqual(all_told(runner), ahead)
            while runner.step():
                pass
            self.assertEqual(all_told(runner), end)
            self.assertEqual((twin.row(), len(twin), twin.steps()), (0, 0, 0))
            while len(runner):
                runner.back()
            self.assertEqual(all_told(runner), all_told(twin))

    def test_twins_of_twins_with_rooms_of_their_own(self):
        runner = Runner(self.ROWS, CONTRACT, shelves=SHELVES, answers=[1])
        for _ in range(8):
            runner.step()
        twin = runner.twin()
        other = twin.twin()
        other.step()
        other.step()
        twin.back()
        while runner.step():
            pass
        while other.step():
            pass
        self.assertEqual(runner.told()[3]["rooms"][5][0], 11)
        self.assertEqual(other.told(), runner.told())
        self.assertEqual(len(twin), 7)
        twin.step()
        self.assertEqual(len(twin), 8)
        for _ in range(8):
            twin.back()
        with self.assertRaises(Bare):
            twin.back()


class OwnCopies(Checks):
    def test_what_was_handed_in_changed_behind_changes_nothing(self):
        rows = list(BackAndTwin.ROWS)
        contract = (list(CONTRACT[0]), list(CONTRACT[1]))
        given, shelves, answers = [4, 5], shelves_copy(), [1, 2]
        runner = Runner(rows, contract, given=given, shelves=shelves, answers=answers)
        still = Runner(list(rows), CONTRACT, given=[4, 5], shelves=SHELVES, answers=[1, 2])
        rows[:] = [("end",)]
        contract[0].clear()
        contract[1].clear()
        given.clear()
        shelves["rooms"][5][0] = 4
        shelves["rooms"].clear()
        shelves.clear()
        answers[:] = [9]
        while still.step():
            self.assertIs(runner.step(), True)
            self.assertEqual(all_told(runner), all_told(still))
        runner.step()
        self.assertEqual(all_told(runner), all_told(still))

    def test_told_lists_and_shelves_changed_change_nothing(self):
        runner = Runner(BackAndTwin.ROWS, CONTRACT, given=[4, 5], shelves=SHELVES, answers=[1, 2])
        still = runner.twin()
        goes = True
        while goes:
            goes = still.step()
            runner.step()
            runner.boxes()[:] = []
            runner.pile()[0] = number(9)
            runner.lent().append((9, "rooms"))
            runner.given().clear()
            self.assertEqual(all_told(runner), all_told(still))
        told = runner.told()
        told[3]["rooms"][5][0] = 77
        told[3]["rooms"].clear()
        told[3].clear()
        self.assertEqual(all_told(runner), all_told(still))
        runner.back()
        still.back()
        self.assertEqual(all_told(runner), all_told(still))

    def test_told_ends_stay(self):
        runner = Runner(LEND + [("store", 4, 0, worth(1)), ("load", 3, 3, 0)], CONTRACT, shelves=SHELVES)
        while runner.step():
            pass
        told = runner.told()
        wanted = copy.deepcopy(told)
        while len(runner):
            runner.back()
        self.assertEqual(told, wanted)

    def test_run_tells_shelves_of_the_askers_own(self):
        shelves = shelves_copy()
        told = run([("set", 0, 1), ("end",)], CONTRACT, shelves=shelves)
        told[3]["rooms"][5][0] = 77
        told[3]["halls"].clear()
        self.assertEqual(shelves, SHELVES)
        self.assertEqual(run([("set", 0, 1), ("end",)], CONTRACT, shelves=shelves)[3], SHELVES)


class Refusals(unittest.TestCase):
    ROWS = [("set", 0, 1), ("end",)]

    def refused(self, part, contract=CONTRACT, **handed):
        for action in (run, Runner):
            with self.assertRaises(NoInput) as caught:
                action(self.ROWS, contract, **handed)
            self.assertIs(type(caught.exception), NoInput)
            self.assertIsInstance(caught.exception, GateError)
            self.assertEqual(caught.exception.part, part, repr(handed))

    def taken(self, contract=CONTRACT, **handed):
        self.assertEqual(run(self.ROWS, contract, **handed)[:3], ("end", 1, 2))
        self.assertEqual(len(Runner(self.ROWS, contract, **handed)), 0)

    def test_input(self):
        for given in ([], (), [0], (65535,), [0] * 16, (1,) * 16):
            self.taken(given=given)
        wrong = [thing for thing in odd_things() if not isinstance(thing, list)]
        wrong += [0, 7, "", "abc", {0: 1}, [0] * 17, (0,) * 17, [0] * 5000, [-1], [65536], [10 ** 59], (-1,)]
        wrong += [[thing] for thing in odd_things() + ["1", (1,), [1]]]
        wrong += [(0, 1, thing) for thing in odd_things()]
        for thing in wrong:
            self.refused("input", given=thing)

    def test_shelves(self):
        for shelves in (None, NONE, SHELVES, {"halls": {}, "rooms": {65535: [0, 0, 0, 65535]}}):
            self.taken(shelves=shelves)
        self.taken(contract=([], []), shelves={})
        wrong = [thing for thing in odd_things() if thing is not None]
        wrong += [0, "", "rooms", [("rooms", {}), ("halls", {})], (("rooms", {}), ("halls", {}))]
        wrong += [{}, {"rooms": {}}, {"halls": {}}, {**NONE, "other": {}}, {"rooms": {}, "other": {}},
                  {"rooms": {}, 0: {}}, {"rooms": {}, None: {}}, {"rooms": {}, b"halls": {}}, {**NONE, 0: {}}]
        for thing in odd_things() + ["", 0, [], (), [(0, [1, 2])]]:
            if not (isinstance(thing, dict) and not thing):
                wrong += [{"rooms": thing, "halls": {}}, {"rooms": {}, "halls": thing}]
        for key in (-1, 65536, True, False, None, "0", (0,), 1.0, 10 ** 59):
            wrong.append({"rooms": {key: [0, 0, 0, 0]}, "halls": {}})
            wrong.append({"rooms": {7: [0, 0, 0, 0], key: [0, 0, 0, 0]}, "halls": {}})
        for room in odd_things() + [0, "abcd", (0, 0, 0, 0), [0] * 3, [0] * 5, {0: 0}, [0, 0, 0, -1], [0, 0, 0, 65536]]:
            wrong.append({"rooms": {0: room}, "halls": {}})
            wrong.append({"rooms": {0: [0] * 4, 1: room}, "halls": {}})
        for thing in odd_things() + ["0", (0,), [0]]:
            wrong.append({"rooms": {0: [0, thing, 0, 0]}, "halls": {}})
        wrong += [{"rooms": {}, "halls": {0: [0, 0, 0, 0]}}, {"rooms": {0: [0, 0]}, "halls": {}}]
        for thing in wrong:
            self.refused("shelves", shelves=thing)
        self.refused("shelves", contract=([], []), shelves=NONE)

    def test_answers(self):
        for answers in ([], (), [0], (-1, 10 ** 59, -(10 ** 59)), [5] * 5000):
            self.taken(answers=answers)
        wrong = [thing for thing in odd_things() if not isinstance(thing, list)]
        wrong += [0, 7, "", "abc", {0: 1}]
        wrong += [[thing] for thing in odd_things() + ["1", (1,), [1]]]
        wrong += [(0, 1, thing) for thing in odd_things()]
        for thing in wrong:
            self.refused("answers", answers=thing)

    def test_input_ahead_of_shelves_ahead_of_answers(self):
        self.refused("input", given=None, shelves=0, answers=None)
        self.refused("input", given=[-1], answers=None)
        self.refused("input", given=[-1], shelves={})
        self.refused("shelves", given=[1], shelves=0, answers=None)
        self.refused("answers", given=[1], shelves=NONE, answers=None)

    def test_what_is_refused_stays_as_it_is(self):
        shelves = {"rooms": {0: [1, 2, 3, 4]}, "halls": {0: [1]}}
        ahead = copy.deepcopy(shelves)
        self.refused("shelves", shelves=shelves)
        self.assertEqual(shelves, ahead)


if __name__ == "__main__":
    unittest.main()
