"""Point [11], with the interface's "boundgate/programs.py"."""

import copy
import random
import unittest

from boundgate import programs as module
from boundgate.errors import GateError, NoProgram
from boundgate.programs import calls_of, look_at_program
from boundgate.worths import ASKS, DEEDS
from tests.drawn import drawn_program
from tests.things import odd_things, shape

BYS = [("box", 0), ("box", 5), ("worth", 0), ("worth", 65535)]
NO_BYS = [
    ("box", 6), ("box", -1), ("worth", 65536), ("worth", -1), ("box", True), ("worth", False), ("box", "0"),
    ("worth", "7"), ("box",), ("worth",), ("box", 0, 0), ("number", 0), ("Box", 0), ("", 0), (0, 0), (), ["box", 0],
    ("box", None), ("worth", [1]), (["box"], 0), (b"box", 0), 0, 7, "box", "b0", None, True, (("box", 0),),
    (("box",), 0), {"box": 0}, {0: "box", 1: 0},
]
NO_BOXES = [-1, 6, 7, 10 ** 59, True, False, None, "0", "b0", (0,), [0], {0: 0}, 0.0, ("box", 0)]
NO_WORTHS = [-1, 65536, 10 ** 59, True, False, None, "0", (0,), [0], 1.0, ("worth", 0)]
NO_OFFS = [-9, 16, 10 ** 59, True, False, None, "0", (0,), [0], 0.0]
NO_NAMES = [
    "", "abcdefghi", "Tell", "tell1", "te ll", "tell ", " tell", "te-ll", "te_ll", "tell\n", "\n", "TELL", b"tell",
    None, True, 0, ("tell",), ["tell"], {"tell": 1},
]
KEYLESS = [[], {}, [[]], {"a": []}, ([],), {1: {2: 3}}]


def good_rows():
    """Rows that are rows in a program of three."""
    rows = [("end",), ("call", "a"), ("call", "tell"), ("call", "abcdefgh"), ("call", "zzzzzzzz")]
    for box in range(6):
        rows += [("set", box, worth) for worth in (0, 1, 65535)]
        rows += [("move", box, other) for other in range(6)]
        rows += [("load", box, other, off) for other in range(6) for off in (-8, -1, 0, 15)]
        rows += [("store", box, off, by) for off in (-8, -1, 0, 15) for by in BYS]
    rows += [("do", word, box, by) for word in DEEDS for box in (0, 5) for by in BYS]
    rows += [("jump", word, box, by, to) for word in ASKS for box in (0, 5) for by in BYS for to in range(3)]
    rows += [("go", to) for to in range(3)]
    return rows


def bad_rows():
    """Things that are no rows in a program of three."""
    rows = odd_things() + ["end", "set", ("END",), ("stop",), (), ("end", 0), ("end", None), ["end"], [("end",)]]
    rows += [(("end",),), (b"end",), (0,), (None,), (["end"],), ({},), (True,), ("end",) * 2, ("call",), ("go",)]
    rows += KEYLESS
    bases = {
        ("set", 0, 0): {1: NO_BOXES, 2: NO_WORTHS},
        ("move", 0, 0): {1: NO_BOXES, 2: NO_BOXES},
        ("do", "plus", 0, ("box", 0)): {1: list(ASKS) + ["", "xor", "Plus", None, True, 0], 2: NO_BOXES, 3: NO_BYS},
        ("jump", "same", 0, ("box", 0), 0): {
            1: list(DEEDS) + ["", "Same", "contrary", None, 0], 2: NO_BOXES, 3: NO_BYS,
            4: [3, 4, 59, 60, -1, True, False, None, "0", (0,), [0]],
        },
        ("go", 0): {1: [3, 4, 59, 60, -1, True, False, None, "0", (0,), [0], 10 ** 59]},
        ("load", 0, 0, 0): {1: NO_BOXES, 2: NO_BOXES, 3: NO_OFFS},
        ("store", 0, 0, ("box", 0)): {1: NO_BOXES, 2: NO_OFFS, 3: NO_BYS},
        ("call", "tell"): {1: NO_NAMES},
    }
    for base, places in bases.items():
        rows += [base[:-1], base + (0,), list(base), (base,), base[1:], (base[0].upper(),) + base[1:], base[:1]]
        rows.append((base[0].encode(),) + base[1:])
        for place, things in places.items():
            rows += [base[:place] + (thing,) + base[place + 1:] for thing in things + odd_things() + KEYLESS]
        rows += [(thing,) + base[1:] for thing in odd_things() + KEYLESS]
    return rows


class Checks(unittest.TestCase):
    def refused(self, thing, number):
        with self.assertRaises(NoProgram) as caught:
            look_at_program(thing)
        self.assertIs(type(caught.exception), NoProgram)
        self.assertIsInstance(caught.exception, GateError)
        self.assertEqual(caught.exception.number, number, repr(thing))
        self.assertIs(type(caught.exception.number), type(number))


class Interface(unittest.TestCase):
    def test_arguments_by_place_and_by_name(self):
        self.assertEqual(shape(look_at_program), (["thing"], {}))
        self.assertEqual(shape(calls_of), (["program"], {}))
        self.assertIsNone(look_at_program(thing=[("end",)]))
        self.assertEqual(calls_of(program=[("end",)]), [])

    def test_defined_in_the_file(self):
        for name in ("look_at_program", "calls_of"):
            self.assertEqual(getattr(module, name).__module__, "boundgate.programs")


class LookAtProgram(Checks):
    def test_each_kind_of_row(self):
        for row in good_rows():
            self.assertIsNone(look_at_program([row, ("end",), ("end",)]), row)
            self.assertIsNone(look_at_program([("end",), ("end",), row]), row)

    def test_each_thing_that_is_no_row(self):
        for thing in bad_rows():
            self.refused([thing, ("end",), ("end",)], 0)
            self.refused([("end",), ("end",), thing], 2)

    def test_the_first_that_is_no_row_counts(self):
        for number in range(5):
            rows = [("set", 0, 7)] * number + [("set", 6, 7)] + [("nothing",)] * (4 - number)
            self.refused(rows, number)
        self.refused([("go", 1), ("go", 2), ("end",), ("go", 4)], 3)

    def test_drawn_programs(self):
        source = random.Random(11)
        for _ in range(200):
            self.assertIsNone(look_at_program(drawn_program(source)))

    def test_to_is_a_row_of_this_program(self):
        for many in (1, 2, 59, 60):
            rows = [("end",)] * (many - 1)
            self.assertIsNone(look_at_program(rows + [("go", many - 1)]))
            self.refused(rows + [("go", many)], many - 1)
            self.assertIsNone(look_at_program(rows + [("jump", "same", 0, ("box", 1), many - 1)]))
            self.refused(rows + [("jump", "same", 0, ("box", 1), many)], many - 1)

    def test_how_many_rows(self):
        self.refused([], None)
        self.assertIsNone(look_at_program([("end",)]))
        self.assertIsNone(look_at_program([("end",)] * 60))
        self.refused([("end",)] * 61, None)
        self.refused([("nothing",)] * 61, None)
        self.refused([("end",)] * 5000, None)
        self.refused([("end",)] * 59 + [("nothing",)], 59)

    def test_no_list(self):
        wrong = odd_things() + [0, 1, "end", "set b0 7", ("end",), (("end",),), {0: ("end",)}, {("end",)}]
        for thing in wrong:
            if isinstance(thing, list) and thing:
                self.refused(thing, 0)
            else:
                self.refused(thing, None)
        self.refused(iter([("end",)]), None)

    def test_what_is_handed_in_stays_as_it_is(self):
        for thing in ([("end",), ["end"]], [("do", "plus", 0, ["box", 0])], [{"end": []}], {"end": [1]}, ([],)):
            ahead = copy.deepcopy(thing)
            with self.assertRaises(NoProgram):
                look_at_program(thing)
            self.assertEqual(thing, ahead)
        program = good_rows()[:60]
        ahead = list(program)
        self.assertIsNone(look_at_program(program))
        self.assertEqual(program, ahead)


class CallsOf(unittest.TestCase):
    def test_sorted_and_each_once(self):
        names = ("tell", "back", "find", "a", "ab", "aa", "zzzzzzzz", "tell", "back")
        self.assertEqual(
            calls_of([("call", name) for name in names]), ["a", "aa", "ab", "back", "find", "tell", "zzzzzzzz"])

    def test_none(self):
        self.assertEqual(calls_of([("end",)]), [])
        self.assertEqual(calls_of([row for row in good_rows() if row[0] != "call"][:60]), [])

    def test_drawn(self):
        source = random.Random(12)
        for _ in range(60):
            program = drawn_program(source, calls=("find", "back", "tell", "call", "end", "x"))
            wanted = []
            for row in program:
                if row[0] == "call" and row[1] not in wanted:
                    wanted.append(row[1])
            wanted.sort()
            ahead = list(program)
            told = calls_of(program)
            self.assertEqual(told, wanted)
            self.assertIs(type(told), list)
            self.assertEqual(program, ahead)

    def test_told_lists_are_the_askers_own(self):
        program = [("call", "find"), ("call", "back")]
        told = calls_of(program)
        told.append("more")
        self.assertEqual(calls_of(program), ["back", "find"])
        later = calls_of(program)
        program.append(("call", "tell"))
        self.assertEqual(later, ["back", "find"])
        self.assertEqual(calls_of(program), ["back", "find", "tell"])


if __name__ == "__main__":
    unittest.main()
