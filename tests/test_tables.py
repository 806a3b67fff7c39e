"""Point [22], with the interface's "boundgate/tables.py"; of point [3] (a) and (b)."""

import copy
import random
import unittest

from boundgate import tables as module
from boundgate.errors import TooMany
from boundgate.gate import told
from boundgate.known import all_of, just, span
from boundgate.runner import run
from boundgate.states import first_state
from boundgate.tables import bound_of, lets_table
from boundgate.texts import read
from tests.drawn_states import UNSET, drawn_state, lesser_state, state_of, turned
from tests.plain import CONTRACT, SHELVES
from tests.tame import tame_program
from tests.things import EqualToAll, odd_things, shape

ALL = ("number", all_of())
MOST = 10 ** 6

# Cells of the input are put together, as many as there are, by rounds.
SUM = read("\n".join([
    "set b0 0", "set b3 0", "jump from b3 b2 8", "load b4 b1 0", "plus b0 b4", "plus b1 1", "plus b3 1", "go 2", "end",
]))


def table_of(program, contract=CONTRACT):
    kind, table = told(program, contract)
    assert kind == "in"
    return table


def wider(state, place=None):
    """A state with a box, or all of them, unset."""
    if place is None:
        return ((UNSET,) * 6, (UNSET,) * 8, state[2], state[3])
    return turned(state, 0, turned(state[0], place, UNSET))


def with_entry(table, row, place, entry):
    """A table with another entry at a place."""
    other = copy.deepcopy(table)
    other[row][place] = entry
    return other


class Interface(unittest.TestCase):
    def test_arguments_by_place_and_by_name(self):
        self.assertEqual(shape(lets_table), (["program", "contract", "thing"], {}))
        self.assertEqual(shape(bound_of), (["table"], {}))
        for name in ("lets_table", "bound_of"):
            self.assertEqual(getattr(module, name).__module__, "boundgate.tables")
        table = table_of(SUM)
        self.assertIs(lets_table(thing=table, contract=CONTRACT, program=SUM), True)
        self.assertEqual(bound_of(table=table), bound_of(table))


class Plain(unittest.TestCase):
    """Tables of one, two and three rows, written by hand."""

    program = [("set", 0, 7), ("end",)]

    def lets(self, thing, program=None):
        told_so = lets_table(program or self.program, CONTRACT, thing)
        self.assertIn(told_so, (True, False))
        self.assertIs(type(told_so), bool)
        return told_so

    def test_right_ones(self):
        first = first_state()
        after = turned(first, 0, turned(first[0], 0, ("number", just(7))))
        for left in (1, 2, 999998):
            for more in (1, 2, MOST - left):
                self.assertTrue(self.lets([[(first, left + more)], [(after, left)]]))
        for state in (after, state_of([ALL]), state_of([("number", span(3, 9))], length=all_of()),
                      turned(after, 0, (ALL,) + after[0][1:])):
            self.assertTrue(self.lets([[(first, 2)], [(state, 1)]]))
        # Several states, of which one is enough, and states that no run comes to.
        one, other = (state_of([ALL], length=just(3)), 1), (state_of([ALL]), 1)
        self.assertTrue(self.lets([[(first, 2), (state_of(), 2)], [one, other]]))
        self.assertTrue(self.lets([[(first, 2), (state_of(), 2)], [other, one]]))
        self.assertFalse(self.lets([[(first, 2), (state_of(), 2)], [one, (after, 1)]]))
        self.assertTrue(self.lets([[(first, 9)], [(after, 4), (after, 3), (state_of([ALL]), 9)]]))
        self.assertTrue(self.lets([[(state_of(), 2)], [(state_of([ALL]), 1)]]))

    def test_left_is_less(self):
        first, after = first_state(), state_of([ALL])
        for left, other, good in ((2, 1, True), (1, 1, False), (5, 5, False), (5, 6, False), (6, 5, True),
                                  (MOST, MOST, False), (MOST, MOST - 1, True)):
            self.assertEqual(self.lets([[(first, left)], [(after, other)]]), good, (left, other))
        # One with a less left must be the one in which it lies.
        narrow = state_of([("number", just(8))])
        self.assertFalse(self.lets([[(first, 3)], [(after, 3), (narrow, 1)]]))
        self.assertTrue(self.lets([[(first, 4)], [(after, 3), (narrow, 1)]]))

    def test_left_is_a_whole_number_from_1_on(self):
        first, after = first_state(), state_of([ALL])
        for left in [0, -1, MOST + 1, 10 ** 59, "1", None, True, 1.0, (1,), [1], EqualToAll()]:
            self.assertFalse(self.lets([[(first, 5)], [(after, left)]]), repr(left))
            self.assertFalse(self.lets([[(first, left)], [(after, 1)]]), repr(left))
            self.assertFalse(self.lets([[(first, 5)], [(after, 1), (after, left)]]), repr(left))

    def test_the_first_state_lies_within_one(self):
        first, after = first_state(), state_of([ALL])
        self.assertFalse(self.lets([[], [(after, 1)]]))
        self.assertFalse(self.lets([[], []]))
        for state in (state_of(length=span(0, 15)), state_of(length=just(0)), state_of([("pile", just(1))]),
                      state_of([("pile", just(0)), ("input", just(0)), ALL, ALL]),
                      turned(first, 1, (ALL,) + first[1][1:])):
            self.assertFalse(self.lets([[(state, 2)], [(after, 1)]]), state)
            self.assertTrue(self.lets([[(state, 2), (first, 2)], [(after, 1)]]), state)

    def test_no_word_is_told_of_any(self):
        first, after = first_state(), state_of([ALL])
        self.assertFalse(self.lets([[(first, 2)], [(after, 1), (state_of(), 1)]]))
        self.assertFalse(self.lets([[(first, 2)], [(after, 1), (state_of([("pile", just(0))]), 1)]]))
        asks = ((0, "rooms", True),)
        self.assertFalse(self.lets([[(first, 2)], [(after, 1), (state_of([ALL], asks=asks), 1)]]))
        self.assertTrue(self.lets([[(first, 2)], [(after, 1), (state_of([ALL]), 1)]]))
        self.assertFalse(self.lets([[(first, 2)]], [("set", 0, 7)]))
        self.assertFalse(self.lets([[(first, 2)]], [("end",)]))
        self.assertFalse(self.lets([[(state_of([ALL]), 2), (first, 2)]], [("end",)]))

    def test_rounds_are_never_let_by(self):
        first = first_state()
        self.assertFalse(self.lets([[(first, 5)]], [("go", 0)]))
        self.assertFalse(self.lets([[(first, 5), (first, 4), (first, 1)]], [("go", 0)]))
        self.assertFalse(self.lets([[(first, 5)], [(first, 4)]], [("go", 1), ("go", 0)]))

    def test_other_kinds(self):
        first, after = first_state(), state_of([ALL])
        right = [[(first, 2)], [(after, 1)]]
        self.assertTrue(self.lets(right))
        for thing in odd_things() + ["", 0, 7, (), tuple(right), (right,), [tuple(part) for part in right], right[:1],
                                     right + [[]], [right], dict(enumerate(right)), [[[first, 2]], [(after, 1)]], [None, None],
                                     [[(first, 2, 0)], [(after, 1)]], [[(2, first)], [(1, after)]], [[first], [after]],
                                     [[first, 2], [after, 1]], [[(first,)], [(after,)]], [right[1], right[0]], [[], [], []]]:
            self.assertFalse(self.lets(thing), repr(thing))
        for thing in odd_things() + ["", 0, (), [], list(first), first[:3], first + (0,)]:
            self.assertFalse(self.lets([[(first, 2)], [(after, 1), (thing, 1)]]), repr(thing))
            self.assertFalse(self.lets([[(first, 2)], [(after, 1), thing]]), repr(thing))
            self.assertFalse(self.lets([[(thing, 2)], [(after, 1)]]), repr(thing))
            if not isinstance(thing, list):
                self.assertFalse(self.lets([[(first, 2)], thing]), repr(thing))

    def test_states_by_the_contract(self):
        after = state_of([ALL])
        for asks in (((0, "other", True),), ((0, "rooms", 1),), ((4, "rooms", True),)):
            self.assertFalse(self.lets([[(first_state(), 2), (state_of(asks=asks), 2)], [(after, 1)]]))
        asks = ((0, "rooms", True),)
        program = [("jump", "same", 2, ("worth", 65535), 1), ("go", 2), ("set", 0, 7), ("end",)]
        right = [[(first_state(), 4)], [(first_state(), 3)], [(first_state(), 2)], [(after, 1)]]
        self.assertTrue(self.lets(right, program))
        self.assertFalse(self.lets([[(first_state(), 4), (state_of(asks=asks), 9)]] + right[1:], program))

    def test_a_list_within_itself(self):
        odd = []
        odd.append(odd)
        self.assertFalse(self.lets(odd, [("end",)]))
        self.assertFalse(self.lets([odd, odd]))


class Turned(unittest.TestCase):
    """Tables that are told, and what becomes of them where something is turned."""

    def setUp(self):
        self.table = table_of(SUM)

    def lets(self, thing, program=SUM):
        return lets_table(program, CONTRACT, thing)

    def test_right(self):
        self.assertTrue(self.lets(self.table))
        self.assertEqual([len(entries) for entries in self.table], [1, 1, 17, 16, 16, 16, 16, 16, 17])
        self.assertEqual(bound_of(self.table), 2 + 16 * 6 + 2)

    def test_a_state_left_out(self):
        for row, entries in enumerate(self.table):
            for place in range(len(entries)):
                # Each of them is needed: a run has done the round as often as that.
                other = copy.deepcopy(self.table)
                del other[row][place]
                self.assertFalse(self.lets(other), (row, place))

    def test_a_lesser_left(self):
        for row, entries in enumerate(self.table):
            for place, (state, left) in enumerate(entries):
                if left > 1:
                    self.assertFalse(self.lets(with_entry(self.table, row, place, (state, left - 1))), (row, place))
                self.assertFalse(self.lets(with_entry(self.table, row, place, (state, 0))))

    def test_greater_lefts(self):
        shifted = [[(state, left + 1000) for state, left in entries] for entries in self.table]
        self.assertTrue(self.lets(shifted))
        self.assertEqual(bound_of(shifted), bound_of(self.table) + 1000)
        times = [[(state, left * 9000) for state, left in entries] for entries in self.table]
        self.assertTrue(self.lets(times))
        self.assertFalse(self.lets([[(state, left * 90000) for state, left in entries] for entries in self.table]))

    def test_wider_states(self):
        # Nobody reads box 5, so it may be unknown; what is read may not.
        loose = [[(wider(state, 5), left) for state, left in entries] for entries in self.table]
        self.assertTrue(self.lets(loose))
        for row, places in ((2, (2, 3)), (3, (1,)), (4, (0, 4)), (5, (1,)), (6, (3,)), (8, (0,))):
            for place in places:
                for at, (state, left) in enumerate(self.table[row]):
                    self.assertFalse(self.lets(with_entry(self.table, row, at, (wider(state, place), left))), (row, place))
        for row, entries in enumerate(self.table):
            other = copy.deepcopy(self.table)
            other[row] = [(wider(state), left) for state, left in entries]
            self.assertEqual(self.lets(other), False, row)

    def test_other_states(self):
        source = random.Random(22)
        for row, entries in enumerate(self.table):
            for place, (state, left) in enumerate(entries):
                lesser = lesser_state(source, state)
                self.assertEqual(self.lets(with_entry(self.table, row, place, (lesser, left))), lesser == state)

    def test_rows_more_or_fewer_or_turned_about(self):
        for thing in (self.table + [[]], self.table[:-1], self.table[1:], self.table[::-1], [[]] + self.table[:-1],
                      [self.table[1], self.table[0]] + self.table[2:], [[] for _ in SUM], []):
            self.assertFalse(self.lets(thing))
        about = [entries[::-1] for entries in self.table]
        self.assertTrue(self.lets(about))
        self.assertEqual(bound_of(about), bound_of(self.table))

    def test_of_another_program_or_contract(self):
        self.assertFalse(self.lets(self.table, SUM[:2] + [("go", 2)] + SUM[3:]))
        self.assertFalse(self.lets(self.table, SUM[:4] + [("do", "plus", 0, ("box", 5))] + SUM[5:]))
        self.assertFalse(self.lets(self.table, SUM[:5] + [("do", "plus", 1, ("worth", 2))] + SUM[6:]))
        self.assertTrue(lets_table(SUM, ([], []), self.table))
        program = [("call", "ask"), ("end",)]
        table = table_of(program)
        self.assertTrue(lets_table(program, CONTRACT, table))
        self.assertFalse(lets_table(program, ([], []), table))
        self.assertTrue(lets_table(program, ([], [("ask", (), ("number", 11, 12))]), table))
        self.assertFalse(lets_table(program, ([], [("ask", (), ("number", 11, 13))]), table))

    def test_what_is_handed_in_stays_as_it_is(self):
        program, contract, table = copy.deepcopy((SUM, CONTRACT, self.table))
        lets_table(program, contract, table)
        bound_of(table)
        self.assertEqual((program, contract, table), (SUM, CONTRACT, self.table))
        self.table[0].clear()
        self.assertTrue(lets_table(program, contract, table))


class Bound(unittest.TestCase):
    def test_the_greatest_left_at_row_0(self):
        first = first_state()
        for lefts in ([1], [3, 9, 2], [MOST], [5, 5]):
            self.assertEqual(bound_of([[(first, left) for left in lefts], [(first, 7)]]), max(lefts))

    def test_rounds_to_row_0(self):
        rows = ["set b4 0", "jump same b0 0 5", "set b3 0", "set b0 0", "go 0", "plus b3 1", "jump under b3 3 0", "end"]
        table = table_of(read("\n".join(rows)))
        self.assertEqual([left for _, left in table[0]], [18, 13, 9, 5])
        self.assertEqual(bound_of(table), 18)
        self.assertEqual(bound_of([table[0][::-1]] + table[1:]), 18)


class Runs(unittest.TestCase):
    """Each run of a program whose table is let by ends without a fault within its bound, whoever wrote the table."""

    def check_runs(self, source, program, table):
        bound = bound_of(table)
        for _ in range(6):
            given = [source.choice((0, 1, 7, 65535, source.randrange(65536))) for _ in range(source.randrange(17))]
            answers = [source.randrange(-9, 70000) for _ in range(source.randrange(4))]
            shelves = source.choice((None, SHELVES, {"rooms": {3: [1, 2, 3, 4]}, "halls": {9: [5, 6]}}))
            word, what, steps, _ = run(program, CONTRACT, given=given, shelves=shelves, answers=answers, most=bound)
            self.assertEqual(word, "end", (program, given, answers))
            self.assertLessEqual(steps, bound)
            self.assertIsInstance(what, int)

    def test_told_tables(self):
        source = random.Random(220)
        let_by = 0
        for _ in range(80):
            program = tame_program(source)
            try:
                answer = told(program, CONTRACT, most=600)
            except TooMany:
                continue
            if answer[0] == "in":
                let_by += 1
                self.assertTrue(lets_table(program, CONTRACT, answer[1]))
                self.check_runs(source, program, answer[1])
        self.assertGreater(let_by, 40)

    def test_tables_that_are_spoiled(self):
        source = random.Random(221)
        let_by = refused = 0
        for _ in range(60):
            program = tame_program(source, most=30)
            try:
                answer = told(program, CONTRACT, most=250)
            except TooMany:
                continue
            if answer[0] != "in":
                continue
            for _ in range(4):
                table = self.spoiled(source, copy.deepcopy(answer[1]))
                # A spoiled table goes as well with a program of which a row is another one.
                other = list(program)
                if source.random() < 0.5:
                    other[source.randrange(len(other))] = source.choice((("end",), ("set", 4, 9), ("move", 3, 5)))
                if lets_table(other, CONTRACT, table):
                    let_by += 1
                    self.check_runs(source, other, table)
                else:
                    refused += 1
        self.assertGreater(let_by, 10)
        self.assertGreater(refused, 10)

    def spoiled(self, source, table):
        row = source.choice([row for row, entries in enumerate(table) if entries])
        place = source.randrange(len(table[row]))
        state, left = table[row][place]
        table[row][place] = source.choice((
            (wider(state, source.randrange(6)), left), (wider(state, source.randrange(6)), left), (state, left + 1),
            (state, max(1, left - 1)), (lesser_state(source, state), left), (drawn_state(source), left)))
        if source.random() < 0.3:
            table[row].append((drawn_state(source, ()), source.randrange(1, 9)))
        if source.random() < 0.3:
            table = [[(one, its_left + 5) for one, its_left in entries] for entries in table]
        return table


if __name__ == "__main__":
    unittest.main()
