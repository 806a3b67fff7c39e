"""Point [23], with the interface's "boundgate/gate.py"; of point [3] (b), (d), (e) and (h)."""

import copy
import random
import unittest

from boundgate import gate as module
from boundgate.errors import GateError, TooMany
from boundgate.gate import MOST_STATES, told
from boundgate.known import all_of, just, span
from boundgate.runner import Runner
from boundgate.states import first_state, is_state, state_holds, state_within
from boundgate.stepping import comes
from boundgate.tables import bound_of, lets_table
from boundgate.texts import read
from tests.drawn import drawn_program
from tests.drawn_states import turned
from tests.exchanged import exchanged_answer, exchanged_program
from tests.plain import CALLS, CONTRACT, SHELVES
from tests.plain_steps import PlainWalk
from tests.tame import spoiled_program, tame_program
from tests.things import shape

BARE = ([], [])
ALL = ("number", all_of())


def rows(text):
    """A program, its rows parted by `; `."""
    return read(text.replace("; ", "\n"))


def boxed(state, **boxes):
    """A state with other things in boxes b0 to b5."""
    for name, thing in boxes.items():
        state = turned(state, 0, turned(state[0], int(name[1:]), thing))
    return state


def number(worth):
    return ("number", just(worth))


def told_or_many(program, contract, most):
    try:
        return told(program, contract, most=most)
    except TooMany as refusal:
        assert refusal.size == most
        return "many"


class Interface(unittest.TestCase):
    def test_arguments_by_place_and_by_name(self):
        self.assertEqual(shape(told), (["program", "contract"], {"most": 2000}))
        self.assertEqual(MOST_STATES, 2000)
        self.assertEqual(told.__module__, "boundgate.gate")
        self.assertEqual(module.told, told)
        program = rows("set b0 1; end")
        self.assertEqual(told(contract=BARE, program=program, most=2), told(program, BARE))
        with self.assertRaises(TypeError):
            told(program, BARE, 2)

    def test_kinds_of_what_is_told(self):
        kind, table = told(rows("set b0 1; end"), BARE)
        self.assertEqual([type(kind), type(table), type(table[0]), type(table[0][0])], [str, list, list, tuple])
        kind, word, way = told(rows("end"), BARE)
        self.assertEqual([type(kind), type(word), type(way), type(way[0])], [str, str, list, tuple])


class In(unittest.TestCase):
    def test_the_first_state_first(self):
        first = first_state()
        table = [[(first, 2)], [(boxed(first, b0=number(1)), 1)]]
        self.assertEqual(told(rows("set b0 1; end"), BARE), ("in", table))

    def test_rows_to_which_nothing_comes(self):
        first = first_state()
        after = boxed(first, b0=number(1))
        self.assertEqual(told(rows("set b0 1; go 3; plus b5 1; end"), BARE), (
            "in", [[(first, 3)], [(after, 2)], [], [(after, 1)]]))

    def test_both_ways_of_a_jump_the_next_row_ahead(self):
        first = first_state()
        least, most = first[:3] + (span(0, 3),), first[:3] + (span(4, 16),)
        answer = told(rows("jump under b2 4 3; set b0 7; end; set b0 1; set b1 0; end"), BARE)
        self.assertEqual(answer, ("in", [
            [(first, 4)], [(most, 2)], [(boxed(most, b0=number(7)), 1)], [(least, 3)], [(boxed(least, b0=number(1)), 2)],
            [(boxed(least, b0=number(1), b1=number(0)), 1)],
        ]))

    def test_rounds_are_walked_as_often_as_they_may_go(self):
        for times in (1, 2, 7, 100):
            kind, table = told(rows(f"set b0 0; plus b0 1; jump under b0 {times} 1; end"), BARE)
            self.assertEqual(kind, "in")
            self.assertEqual([len(entries) for entries in table], [1, times, times, 1])
            self.assertEqual([left for _, left in table[1]], [2 * (times - done) + 1 for done in range(times)])
            self.assertEqual([state[0][0] for state, _ in table[2]], [number(done + 1) for done in range(times)])
            self.assertEqual(bound_of(table), 2 * times + 2)

    def test_by_rounds_over_the_input(self):
        program = rows("set b3 0; jump same b3 b2 6; load b0 b1 0; plus b1 1; plus b3 1; go 1; set b0 0; end")
        kind, table = told(program, BARE)
        self.assertEqual(kind, "in")
        self.assertEqual(bound_of(table), 1 + 16 * 5 + 3)

    def test_two_ways_that_meet(self):
        first = first_state()
        answer = told(rows("set b0 0; jump under b2 4 3; set b3 1; set b3 1; end"), BARE)
        least, most = first[:3] + (span(0, 3),), first[:3] + (span(4, 16),)
        of_most, of_least = boxed(most, b0=number(0)), boxed(least, b0=number(0))
        self.assertEqual(answer, ("in", [
            [(first, 5)], [(boxed(first, b0=number(0)), 4)], [(of_most, 3)],
            [(boxed(of_most, b3=number(1)), 2), (of_least, 2)],
            [(boxed(of_most, b3=number(1)), 1), (boxed(of_least, b3=number(1)), 1)],
        ]))

    def test_left_out_by_one_that_was_walked(self):
        program = rows("jump same b2 0 9; load b4 b1 0; set b0 0; jump under b4 4 5; set b4 0; set b4 0; set b3 1; "
                       "set b3 1; end; set b0 0; end")
        kind, table = told(program, BARE)
        self.assertEqual(kind, "in")
        # Of the two at row 5 one came by row 4, the other one by the jump; what came of this one was left out.
        self.assertEqual([[left for _, left in entries] for entries in table],
                         [[9], [8], [7], [6], [5], [4, 4], [3], [2], [1], [2], [1]])

    # Two numbers come to row 17: by row 7 the first one is at most 3, by row 12 the second one, by row 16 both.
    MEETING = (
        "jump under b2 2 24; load b3 b1 0; load b4 b1 1; load b5 b1 0; jump under b5 1 8; and b3 3; set b5 0; go 17; "
        "load b5 b1 1; jump under b5 1 13; and b4 3; set b5 0; go 17; and b3 3; and b4 3; set b5 0; go 17; ")

    def test_the_first_one_that_was_come_to_counts(self):
        program = rows(self.MEETING + "jump over b3 3 20; set b0 0; end; set b0 1; set b0 1; set b0 0; end; set b0 0; end")
        kind, table = told(program, BARE)
        self.assertEqual(kind, "in")
        self.assertEqual([left for _, left in table[17]], [3, 5])
        self.assertEqual([table[row][0][1] for row in (7, 12, 16)], [4, 6, 4])
        self.assertTrue(lets_table(program, BARE, table))

    def test_one_walked_to_its_ends_counts_ahead_of_one_being_walked(self):
        # What comes back to row 17 lies within both.
        program = rows(self.MEETING + "jump over b3 3 20; set b0 0; end; and b3 3; go 17; end; end; set b0 0; end")
        kind, table = told(program, BARE)
        self.assertEqual(kind, "in")
        self.assertEqual([left for _, left in table[17]], [3, 6])
        self.assertEqual([table[row][0][1] for row in (7, 12, 16, 20, 21)], [4, 7, 4, 5, 4])
        # Without the first way there is just the one being walked.
        alone = rows(self.MEETING.replace("set b5 0; go 17", "set b0 0; end", 1)
                     + "jump over b3 3 20; set b0 0; end; and b3 3; go 17; end; end; set b0 0; end")
        self.assertEqual(told(alone, BARE)[:2], ("out", "over"))

    def test_one_walked_to_its_ends_behind_one_being_walked(self):
        # Row 4 is come to again by row 10, which lies not within the first one there, then by row 12, within both.
        program = rows("jump under b2 2 13; load b3 b1 0; load b4 b1 1; and b4 3; jump over b3 3 7; set b0 0; end; "
                       "jump over b3 9 11; load b4 b1 1; and b3 3; go 4; and b3 3; go 4; set b0 0; end")
        kind, table = told(program, BARE)
        self.assertEqual(kind, "in")
        self.assertEqual([left for _, left in table[4]], [8, 3])
        self.assertEqual([table[row][0][1] for row in (10, 12)], [4, 4])

    def test_a_room(self):
        program = rows("set b1 5; call find; jump same b0 0 6; store b0 1 9; move b1 b0; call back; set b0 1; end")
        kind, table = told(program, CONTRACT)
        self.assertEqual(kind, "in")
        self.assertEqual(bound_of(table), 8)
        asks = [{state[2] for state, _ in entries} for entries in table]
        maybe, sure = ((0, "rooms", False),), ((0, "rooms", True),)
        self.assertEqual(asks, [{()}, {()}, {maybe}, {sure}, {sure}, {sure}, {()}, {()}])

    def test_nothing_comes_and_yet_it_is_in(self):
        # A number of two bits can't have both of them and be less than three.
        program = rows("set b0 0; jump same b2 0 5; load b3 b1 0; and b3 3; jump under b3 3 6; end; jump bits b3 2 8; end; "
                       "jump bits b3 1 10; end; set b0 1; end")
        kind, table = told(program, BARE)
        self.assertEqual(kind, "in")
        self.assertTrue(lets_table(program, BARE, table))

    def test_deep_ways_are_no_trouble(self):
        program = rows("set b0 0; plus b0 1; jump under b0 990 1; end")
        kind, table = told(program, BARE)
        self.assertEqual((kind, bound_of(table)), ("in", 1982))


class Out(unittest.TestCase):
    def out(self, text, word, way_rows, contract=CONTRACT):
        kind, its_word, way = told(rows(text), contract)
        self.assertEqual((kind, its_word), ("out", word), text)
        self.assertEqual([row for row, _ in way], way_rows, text)
        self.check_way(rows(text), contract, word, way)
        return way

    def check_way(self, program, contract, word, way):
        """Each state of the way comes of the one ahead; the word is told of the last one."""
        self.assertEqual(way[0], (0, first_state()))
        for ahead, after in zip(way, way[1:]):
            self.assertIn(after, comes(program, contract, *ahead))
        for row, state in way:
            self.assertIs(is_state(contract, state), True)
        last = way[-1]
        if word == "over":
            self.assertTrue(any(row == last[0] and state_within(last[1], state) for row, state in way[:-1]))
        else:
            self.assertEqual(comes(program, contract, *last), word)

    def test_each_word(self):
        self.out("move b0 b5; end", "unset", [0])
        self.out("end", "out", [0])
        self.out("set b0 0; times b1 2; end", "kind", [0, 1])
        self.out("load b0 b1 0; end", "outside", [0])
        self.out("set b0 0; jump same b2 0 3; store b1 0 7; end", "write", [0, 1, 2])
        self.out("set b0 0; call other; end", "call", [0, 1])
        self.out("set b0 0; call find; end", "call", [0, 1])
        self.out("set b0 0; set b1 5; call find; set b0 0; end", "kept", [0, 1, 2, 3, 4])
        self.out("set b0 0; go 2; move b0 b0", "off", [0, 1, 2])
        self.out("set b0 0", "off", [0])
        self.out("set b1 5; call find; jump unlike b0 0 4; end; store b0 0 b5; end", "unset", [0, 1, 2, 4])
        self.out("move b4 b0; set b1 5; call find; jump unlike b0 0 5; end; store b0 0 b4; end", "out",
                 [0, 1, 2, 3, 5])

    def test_over(self):
        first = first_state()
        self.assertEqual(told(rows("go 0"), BARE), ("out", "over", [(0, first), (0, first)]))
        way = self.out("set b0 0; go 2; go 1; end", "over", [0, 1, 2, 1])
        self.assertEqual(way[3], way[1])
        self.out("set b0 0; plus b0 0; go 1", "over", [0, 1, 2, 1])
        # What comes back is less than what was there ahead.
        way = self.out("jump same b2 0 5; load b3 b1 0; jump under b3 9 4; go 2; go 2; set b0 0; end", "over", [0, 1, 2, 3, 2])
        self.assertNotEqual(way[4][1], way[2][1])

    def test_rounds_that_end_but_cannot_be_told(self):
        # The known tells nothing of how a sum of two unknown numbers grows.
        self.out("jump under b2 2 6; load b3 b1 0; load b4 b1 1; plus b3 b4; jump under b3 9 3; go 6; set b0 0; end", "over",
                 [0, 1, 2, 3, 4, 3])

    def test_the_next_row_goes_first(self):
        self.out("jump under b2 4 3; move b0 b5; end; move b0 b4; end", "unset", [0, 1])
        self.out("jump under b2 4 2; go 3; move b0 b4; set b0 0; end", "unset", [0, 2])
        self.out("jump same b0 0 2; go 3; move b0 b4; load b0 b0 9; end", "outside", [0, 1, 3])

    def test_a_word_goes_ahead_of_what_comes_later(self):
        # One state is left out, the way of the next one ends in a word.
        way = self.out("set b0 0; set b3 1; jump under b2 4 4; set b3 1; jump under b2 4 6; end; move b0 b5; end", "unset",
                       [0, 1, 2, 4, 6])
        self.assertEqual(way[-1][1][3], span(0, 3))

    def test_drawn(self):
        source = random.Random(231)
        seen = set()
        for turn in range(250):
            program = drawn_program(source, CALLS, most=12) if turn % 2 else spoiled_program(source, CALLS)
            answer = told_or_many(program, CONTRACT, 300)
            if answer[0] == "out":
                seen.add(answer[1])
                self.check_way(program, CONTRACT, answer[1], answer[2])
            elif answer != "many":
                self.assertTrue(lets_table(program, CONTRACT, answer[1]))
        self.assertLessEqual({"unset", "kind", "outside", "out", "call", "off", "over"}, seen)


class Many(unittest.TestCase):
    def test_just_where_more_would_be_walked(self):
        for text, many in (("set b0 1; end", 2), ("set b0 0; plus b0 1; jump under b0 9 1; end", 20),
                           ("set b0 0; set b3 1; jump under b2 4 4; set b3 1; end", 6)):
            program = rows(text)
            answer = told(program, BARE)
            self.assertEqual(sum(len(entries) for entries in answer[1]), many)
            for most in range(many):
                with self.assertRaises(TooMany) as caught:
                    told(program, BARE, most=most)
                self.assertEqual(caught.exception.size, most)
                self.assertIsInstance(caught.exception, GateError)
            for most in (many, many + 1, 10 ** 9, 10 ** 59):
                self.assertEqual(told(program, BARE, most=most), answer)

    def test_also_where_a_word_would_be_told_of_the_one_too_many(self):
        for text, many in (("end", 1), ("set b0 1; move b0 b5", 2), ("set b0 1; go 2; times b1 2; end", 3), ("set b0 1", 1)):
            with self.assertRaises(TooMany) as caught:
                told(rows(text), BARE, most=many - 1)
            self.assertEqual(caught.exception.size, many - 1)
            self.assertEqual(told(rows(text), BARE, most=many)[0], "out")

    def test_one_that_is_refused_as_over_is_none(self):
        self.assertEqual(told(rows("go 0"), BARE, most=1)[:2], ("out", "over"))
        self.assertEqual(told(rows("set b0 0; go 2; go 1; end"), BARE, most=3)[:2], ("out", "over"))
        with self.assertRaises(TooMany):
            told(rows("set b0 0; go 2; go 1; end"), BARE, most=2)
        with self.assertRaises(TooMany):
            told(rows("go 0"), BARE, most=0)

    def test_one_that_is_left_out_is_none(self):
        program = rows("set b0 0; jump same b2 0 7; load b3 b1 0; jump under b3 9 5; set b3 0; set b3 0; set b3 0; end")
        walk = PlainWalk(program, BARE, 10 ** 9)
        answer = walk.told()
        self.assertGreater(walk.left_out, 0)
        self.assertEqual(told(program, BARE, most=walk.many), answer)
        with self.assertRaises(TooMany):
            told(program, BARE, most=walk.many - 1)

    def test_two_thousand_where_nothing_is_told(self):
        # One row, 999 rounds of two, and one: 2000.
        self.assertEqual(told(rows("set b0 0; plus b0 1; jump under b0 999 1; end"), BARE)[0], "in")
        for program in (rows("set b0 0; plus b0 1; jump under b0 1000 1; end"), rows("set b5 0; plus b5 1; go 1")):
            with self.assertRaises(TooMany) as caught:
                told(program, BARE)
            self.assertEqual(caught.exception.size, 2000)
        # Two thousand and two.
        program = rows("set b0 0; plus b0 1; jump under b0 1000 1; end")
        with self.assertRaises(TooMany):
            told(program, BARE, most=2001)
        self.assertEqual(told(program, BARE, most=2002)[0], "in")


class Whole(unittest.TestCase):
    def test_as_the_second_telling(self):
        source = random.Random(230)
        kinds = {}
        left_out = 0
        for turn in range(300):
            if turn % 4 == 0:
                program = drawn_program(source, CALLS, most=20)
            else:
                program = tame_program(source) if turn % 4 < 3 else spoiled_program(source, CALLS)
            most = source.choice((300, 300, source.randrange(60)))
            walk = PlainWalk(program, CONTRACT, most)
            answer = walk.told()
            left_out += walk.left_out
            self.assertEqual(told_or_many(program, CONTRACT, most), answer, program)
            kinds[answer[0]] = kinds.get(answer[0], 0) + 1
        for kind in ("in", "out", "m"):
            self.assertGreater(kinds[kind], 20)
        self.assertGreater(left_out, 50)

    def test_a_told_table_is_let_by_and_holds_every_run_row_by_row(self):
        source = random.Random(232)
        steps = 0
        for _ in range(60):
            program = tame_program(source)
            answer = told_or_many(program, CONTRACT, 500)
            if answer[0] != "in":
                continue
            table = answer[1]
            self.assertTrue(lets_table(program, CONTRACT, table))
            for _ in range(3):
                given = [source.choice((0, 1, 65535, source.randrange(65536))) for _ in range(source.randrange(17))]
                runner = Runner(program, CONTRACT, given=given, shelves=SHELVES, answers=[source.randrange(99)])
                while runner.told() is None:
                    left = bound_of(table) - runner.steps()
                    held = [entry for entry in table[runner.row()] if state_holds(entry[0], runner)]
                    self.assertTrue(held, (program, given, runner.row()))
                    self.assertGreaterEqual(left, 1)
                    runner.step()
                    steps += 1
                self.assertEqual(runner.told()[0], "end")
        self.assertGreater(steps, 2000)

    def test_what_is_told_is_the_askers_own_and_what_is_handed_in_stays(self):
        for text in ("set b0 0; plus b0 1; jump under b0 5 1; end", "set b0 0; go 2; go 1; end", "move b0 b5"):
            program, contract = rows(text), copy.deepcopy(CONTRACT)
            answer = told(program, contract)
            kept = copy.deepcopy(answer)
            self.assertEqual((program, contract), (rows(text), CONTRACT))
            again = told(program, contract)
            again[-1].clear()
            self.assertEqual(answer, kept)
            if answer[0] == "in":
                other = told(program, contract)
                other[1][0].clear()
                self.assertEqual(answer, kept)
            program.clear()
            contract[1].clear()
            self.assertEqual(answer, kept)
            self.assertEqual(told(rows(text), CONTRACT), kept)

    def test_boxes_4_and_5_exchanged(self):
        source = random.Random(233)
        for turn in range(60):
            program = tame_program(source) if turn % 2 else spoiled_program(source, CALLS)
            answer = told_or_many(program, CONTRACT, 300)
            other = told_or_many(exchanged_program(program), CONTRACT, 300)
            self.assertEqual(other, exchanged_answer(answer))


if __name__ == "__main__":
    unittest.main()
