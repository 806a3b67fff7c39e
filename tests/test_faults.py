"""Point [24], with the interface's "boundgate/faults.py"."""

import copy
import itertools
import random
import unittest
from unittest import mock

from boundgate import faults as module
from boundgate.faults import faulting, is_faulting
from boundgate.gate import told
from boundgate.runner import run
from boundgate.texts import read
from tests.drawn import drawn_program
from tests.plain import CALLS, CONTRACT, SHELVES
from tests.tame import spoiled_program, tame_program
from tests.things import odd_things, shape

BARE = ([], [])
NONE = {"rooms": {}, "halls": {}}
SHORT = [list(given) for many in range(5) for given in itertools.product((0, 1, 65535), repeat=many)]


def rows(text):
    return read(text.replace("; ", "\n"))


def faults_just_by(given):
    """A program that faults just by one input."""
    many = 1 + 2 * len(given) + 1
    program = [("jump", "unlike", 2, ("worth", len(given)), many)]
    for place, worth in enumerate(given):
        program += [("load", 3, 1, place), ("jump", "unlike", 3, ("worth", worth), many)]
    return program + [("move", 0, 5), ("set", 0, 0), ("end",)]


class Interface(unittest.TestCase):
    def test_arguments_by_place_and_by_name(self):
        self.assertEqual(shape(faulting), (["program", "contract"], {"tries": 64, "most": 1000}))
        self.assertEqual(shape(is_faulting), (["program", "contract", "thing"], {"most": 1000}))
        for name in ("faulting", "is_faulting"):
            self.assertEqual(getattr(module, name).__module__, "boundgate.faults")
        found = faulting(contract=CONTRACT, program=rows("end"), most=5, tries=9)
        self.assertIs(is_faulting(thing=found, contract=CONTRACT, program=rows("end"), most=5), True)
        for action in (lambda: faulting(rows("end"), CONTRACT, 5), lambda: is_faulting(rows("end"), CONTRACT, found, 5)):
            with self.assertRaises(TypeError):
                action()


class Faulting(unittest.TestCase):
    def check(self, program, contract, found, most=1000):
        """What is told is a run that faults."""
        self.assertIs(type(found), tuple)
        given, shelves, answers = found
        self.assertEqual([type(part) for part in found], [list, dict, list])
        word = run(program, contract, given=given, shelves=shelves, answers=answers, most=most)[0]
        self.assertNotEqual(word, "end")
        self.assertIs(is_faulting(program, contract, found, most=most), True)

    def test_plain_ones(self):
        for text in ("end", "move b0 b5", "set b0 1; times b1 2; end", "load b0 b1 0; end", "set b0 0; call other; end",
                     "go 0", "set b0 1", "jump same b2 0 2; store b1 0 1; set b0 0; end"):
            self.assertEqual(told(rows(text), CONTRACT)[0], "out")
            self.check(rows(text), CONTRACT, faulting(rows(text), CONTRACT))

    def test_each_short_input_is_found_by_121_tries(self):
        self.assertEqual(len(SHORT), 121)
        for given in SHORT:
            program = faults_just_by(given)
            self.assertEqual(run(program, BARE, given=given)[0], "unset")
            found = faulting(program, CONTRACT, tries=121)
            self.check(program, CONTRACT, found)
            self.assertEqual(found, (given, NONE, []))

    def test_an_input_that_faults_is_found_where_there_is_one(self):
        source = random.Random(240)
        found_ones = nothing = 0
        for turn in range(120):
            program = drawn_program(source, CALLS, most=15) if turn % 2 else spoiled_program(source, CALLS)
            most = source.choice((1000, 1000, source.randrange(1, 40)))
            some = [given for given in SHORT if run(program, CONTRACT, given=given, most=most)[0] != "end"]
            for tries in (121, 200):
                found = faulting(program, CONTRACT, tries=tries, most=most)
                if some or found is not None:
                    self.check(program, CONTRACT, found, most)
            found_ones += bool(some)
            nothing += not some
        self.assertGreater(found_ones, 30)
        self.assertGreater(nothing, 10)

    def test_none_of_programs_that_never_fault(self):
        source = random.Random(241)
        seen = 0
        for _ in range(25):
            program = tame_program(source, most=35)
            if told(program, CONTRACT)[0] == "in":
                seen += 1
                self.assertIsNone(faulting(program, CONTRACT))
                self.assertIsNone(faulting(program, CONTRACT, tries=150))
        self.assertGreater(seen, 10)

    def test_none_where_none_is_found(self):
        # It faults just by one key of the many, which isn't near any worth that is written.
        program = rows("jump same b2 0 5; load b3 b1 0; times b3 7; jump unlike b3 40 5; move b0 b5; set b0 0; end")
        self.assertEqual(told(program, CONTRACT)[:2], ("out", "unset"))
        self.assertEqual(run(program, CONTRACT, given=[40 * 28087 % 65536])[0], "unset")
        self.assertIsNone(faulting(program, CONTRACT))

    def test_rooms_and_answers_are_tried_too(self):
        keeps = rows("set b0 0; set b1 5; call find; set b0 0; end")
        for tries in (64, 130):
            found = faulting(keeps, CONTRACT, tries=tries)
            self.check(keeps, CONTRACT, found)
            self.assertIn(5, found[1]["rooms"])
        answered = rows("call ask; jump unlike b0 12 3; move b0 b5; set b0 0; end")
        found = faulting(answered, CONTRACT)
        self.check(answered, CONTRACT, found)
        self.assertNotEqual(found[2], [])

    def test_over_counts(self):
        program = rows("set b0 0; plus b0 1; jump under b0 400 1; end")
        kind, table = told(program, BARE)
        self.assertEqual((kind, table[0][0][1]), ("in", 802))
        self.assertIsNone(faulting(program, BARE))
        self.assertIsNone(faulting(program, BARE, most=802, tries=130))
        for most in (801, 800, 5, 1, 0):
            self.check(program, BARE, faulting(program, BARE, most=most), most)
        longer = rows("set b0 0; plus b0 1; jump under b0 600 1; end")
        self.assertEqual(told(longer, BARE)[0], "in")
        self.check(longer, BARE, faulting(longer, BARE))
        self.assertIsNone(faulting(longer, BARE, most=2000))
        self.check(rows("go 0"), BARE, faulting(rows("go 0"), BARE))

    def test_no_more_than_tries(self):
        for tries in (0, 1, 2, 39, 40, 41, 64, 120, 121, 122, 200):
            with mock.patch.object(module, "run", side_effect=run) as spy:
                self.assertIsNone(faulting(rows("set b0 0; end"), CONTRACT, tries=tries))
            self.assertEqual(spy.call_count, tries)
            if tries == 121:
                tried = [call.kwargs for call in spy.call_args_list]
                self.assertEqual(sorted(kwargs["given"] for kwargs in tried), sorted(SHORT))
                for kwargs in tried:
                    self.assertEqual((kwargs["shelves"], kwargs["answers"]), (NONE, []))
        self.assertIsNone(faulting(rows("end"), CONTRACT, tries=0))
        self.assertIsNone(faulting(rows("end"), CONTRACT, tries=-1))

    def test_all_that_is_tried_is_what_a_run_may_be_handed(self):
        for contract in (BARE, CONTRACT, ([("a", 1), ("b", 8)], [])):
            with mock.patch.object(module, "run", side_effect=run) as spy:
                self.assertIsNone(faulting(rows("set b0 500; plus b0 65535; end"), contract, tries=300))
            for call in spy.call_args_list:
                self.assertEqual(run(*call.args, **call.kwargs)[0], "end")
            self.assertEqual({len(call.kwargs["given"]) for call in spy.call_args_list}, set(range(17)))

    def test_more_tries_than_any_number_end(self):
        self.assertIsNone(faulting(rows("set b0 0; end"), CONTRACT, tries=10 ** 59))

    def test_shelves_of_the_contract(self):
        for contract in (BARE, CONTRACT, ([("a", 1), ("b", 8), ("c", 3), ("d", 4)], [])):
            for tries in (1, 64, 200):
                found = faulting(rows("jump under b2 5 3; move b0 b5; end; set b0 0; end"), contract, tries=tries)
                if found is not None:
                    self.assertEqual(set(found[1]), {name for name, _ in contract[0]})

    def test_what_is_told_is_the_askers_own_and_what_is_handed_in_stays(self):
        program, contract = rows("set b0 0; set b1 5; call find; set b0 0; end"), copy.deepcopy(CONTRACT)
        found = faulting(program, contract)
        kept = copy.deepcopy(found)
        self.assertEqual((program, contract), (rows("set b0 0; set b1 5; call find; set b0 0; end"), CONTRACT))
        again = faulting(program, contract)
        self.assertEqual(again, kept)
        again[0].append(7)
        again[1]["rooms"].clear()
        again[2].append(7)
        self.assertEqual(found, kept)
        self.assertEqual(faulting(program, contract), kept)


class IsFaulting(unittest.TestCase):
    program = rows("jump same b2 0 4; load b0 b1 0; jump same b0 9 3; end; set b0 0; end")
    keeps = rows("set b0 0; set b1 5; call find; jump same b0 0 5; move b0 b5; set b0 0; end")

    def test_runs(self):
        reads = rows("load b0 b1 1; end")
        for given, wanted in (([], True), ([1], True), ([1, 2], False), ((1, 2), False), ((1,), True)):
            for answers in ([], (), [1], (-5, 10 ** 40)):
                self.assertIs(is_faulting(reads, CONTRACT, (given, NONE, answers)), wanted)
                self.assertIs(is_faulting(reads, CONTRACT, (given, SHELVES, answers)), wanted)
        self.assertIs(is_faulting(self.keeps, CONTRACT, ([], SHELVES, [])), True)
        self.assertIs(is_faulting(self.keeps, CONTRACT, ([], NONE, [])), False)
        answered = rows("call ask; jump unlike b0 12 3; move b0 b5; set b0 0; end")
        for answer in range(-3, 9):
            self.assertIs(is_faulting(answered, CONTRACT, ([], NONE, [answer])), answer % 3 == 2)

    def test_over_counts(self):
        program = rows("set b0 0; set b0 1; set b0 2; end")
        for most in range(7):
            self.assertIs(is_faulting(program, CONTRACT, ([], NONE, []), most=most), most < 4)
        self.assertIs(is_faulting(rows("go 0"), CONTRACT, ([], NONE, [])), True)
        self.assertIs(is_faulting(rows("move b0 b5"), CONTRACT, ([], NONE, []), most=1), True)

    def test_anything(self):
        program = rows("end")
        self.assertIs(is_faulting(program, CONTRACT, ([], NONE, [])), True)
        wrong = odd_things() + [
            "", 0, 7, (), ([],), ([], NONE), ([], NONE, [], []), [[], NONE, []], ([], None, []), (NONE, [], []), ([], [], NONE),
            ([], {}, []), ([], {"rooms": {}}, []), ([], {**NONE, "other": {}}, []), ([], {"rooms": {}, "halls": None}, []),
            ([], {"rooms": {0: [1, 2, 3]}, "halls": {}}, []), ([], {"rooms": {0: (1, 2, 3, 4)}, "halls": {}}, []),
            ([], {"rooms": {"0": [1, 2, 3, 4]}, "halls": {}}, []), ([], {"rooms": {True: [1, 2, 3, 4]}, "halls": {}}, []),
            ([0] * 17, NONE, []), ([65536], NONE, []), ([-1], NONE, []), ([True], NONE, []), (["1"], NONE, []),
            ([], NONE, [True]), ([], NONE, ["1"]), ([], NONE, [None]), ([], NONE, None), (None, NONE, []),
        ]
        for thing in wrong:
            self.assertIs(is_faulting(program, CONTRACT, thing), False, repr(thing))
        for thing in odd_things():
            if not isinstance(thing, list):
                self.assertIs(is_faulting(program, CONTRACT, (thing, NONE, [])), False, repr(thing))
                self.assertIs(is_faulting(program, CONTRACT, ([], NONE, thing)), False, repr(thing))
            self.assertIs(is_faulting(program, CONTRACT, ([], thing, [])), False, repr(thing))

    def test_what_is_handed_in_stays_as_it_is(self):
        thing = ([1, 2], copy.deepcopy(SHELVES), [3])
        store = rows("set b1 5; call find; jump same b0 0 5; store b0 0 77; go 6; set b0 0; end")
        self.assertIs(is_faulting(store, CONTRACT, thing), True)
        self.assertEqual(thing, ([1, 2], SHELVES, [3]))


if __name__ == "__main__":
    unittest.main()
