"""Point [25], with the interface's "boundgate/faster.py"; of point [3] (f)."""

import copy
import random
import unittest

from boundgate import faster as module
from boundgate.errors import GateError, NoTable, TooMany
from boundgate.faster import faster
from boundgate.gate import told
from boundgate.known import all_of, just, span
from boundgate.programs import look_at_program
from boundgate.runner import run
from boundgate.states import first_state
from boundgate.stepping import comes
from boundgate.tables import bound_of, lets_table, lies_in
from boundgate.texts import read, shown
from tests.drawn_states import UNSET, lesser_state, state_of, turned
from tests.plain import CONTRACT, SHELVES
from tests.tame import tame_program
from tests.things import odd_things, shape

ALL = ("number", all_of())
EMPTY = (1, 8, 2, 8, 2, 8)


def rows(text):
    return read(text.replace("; ", "\n"))


def number(worth):
    return ("number", just(worth))


def in_table(program, contract=CONTRACT):
    answer = told(program, contract)
    assert answer[0] == "in", answer[:2]
    return answer[1]


class Checks(unittest.TestCase):
    def becomes(self, text, wanted, table=None, contract=CONTRACT):
        """What a program becomes by a table, the told one where none is handed in."""
        program = rows(text)
        table = in_table(program, contract) if table is None else table
        self.assertTrue(lets_table(program, contract, table), text)
        made = faster(program, contract, table)
        self.assertEqual(shown(made).replace("\n", "; "), wanted)
        self.check(program, made, table, contract)
        return made

    def stays(self, text, table=None):
        return self.becomes(text, text, table)

    def check(self, program, made, table, contract=CONTRACT):
        """A program of as many rows, that is let by with the same table."""
        self.assertIsNone(look_at_program(made))
        self.assertEqual(len(made), len(program))
        self.assertTrue(lets_table(made, contract, table))
        self.assertEqual(len(faster(made, contract, table)), len(program))


class Interface(Checks):
    def test_arguments_by_place_and_by_name(self):
        self.assertEqual(shape(faster), (["program", "contract", "table"], {}))
        self.assertEqual(faster.__module__, "boundgate.faster")
        self.assertEqual(module.faster, faster)
        program = rows("set b0 1; end")
        made = faster(table=in_table(program), contract=CONTRACT, program=program)
        self.assertEqual(made, program)
        self.assertIs(type(made), list)

    def test_no_table(self):
        program = rows("set b0 1; end")
        table = in_table(program)
        other = [[(first_state(), 1)], [(state_of([ALL]), 1)]]
        for thing in odd_things() + ["", 0, [], [[], []], tuple(table), table[:1], table + [[]], other, [table[1], table[0]]]:
            with self.assertRaises(NoTable) as caught:
                faster(program, CONTRACT, thing)
            self.assertIsInstance(caught.exception, GateError)
        with self.assertRaises(NoTable):
            faster(rows("set b0 1; set b0 2"), CONTRACT, table)

    def test_what_is_told_is_the_askers_own_and_what_is_handed_in_stays(self):
        program = rows("set b0 1; plus b0 1; end")
        table, contract = in_table(program), copy.deepcopy(CONTRACT)
        kept = copy.deepcopy(table)
        made = faster(program, contract, table)
        made.clear()
        self.assertEqual((program, table, contract), (rows("set b0 1; plus b0 1; end"), kept, CONTRACT))
        self.assertEqual(faster(program, contract, table), rows("set b0 1; set b0 2; end"))


class NoState(Checks):
    def test_rows_without_a_state_are_ends(self):
        self.becomes("set b0 1; go 4; move b0 b5; call other; end; go 0", "set b0 1; go 4; end; end; end; end")
        self.becomes("set b0 1; jump same b0 1 4; set b0 2; end; end", "set b0 1; go 4; end; end; end")

    def test_not_where_a_table_has_one(self):
        program = rows("set b0 1; go 3; set b0 2; end")
        table = in_table(program)
        table[2].append((state_of(), 7))
        table[3].append((state_of([ALL]), 6))
        self.stays("set b0 1; go 3; set b0 2; end", table)


class Do(Checks):
    def test_due(self):
        self.becomes("set b0 3; plus b0 4; end", "set b0 3; set b0 7; end")
        self.becomes("set b0 3; set b4 5; times b0 b4; either b4 b0; move b0 b4; end",
                     "set b0 3; set b4 5; set b0 15; set b4 10; move b0 b4; end")
        # Of what is known as little as this is enough, too.
        self.becomes("move b0 b2; and b0 0; end", "move b0 b2; set b0 0; end")
        self.becomes("move b0 b2; right b0 5; end", "move b0 b2; set b0 0; end")
        self.becomes("move b0 b2; or b0 65535; end", "move b0 b2; set b0 65535; end")

    def test_due_in_several_states(self):
        self.becomes("set b0 1; jump under b2 4 3; set b3 2; plus b0 1; end", "set b0 1; jump under b2 4 3; set b3 2; set b0 2; end")

    def test_not_due(self):
        self.stays("move b0 b2; plus b0 1; end")
        self.stays("plus b1 1; plus b0 1; set b0 0; end")
        # Another worth in each state: a round, and two ways.
        self.stays("set b0 0; plus b0 1; jump under b0 3 1; end")
        self.stays("set b0 1; jump under b2 4 3; set b0 2; plus b0 1; end")

    def test_not_where_a_pointer_is_known(self):
        self.stays("plus b0 3; set b3 9; store b0 0 b3; set b0 0; end")

    def test_not_where_a_table_tells_less(self):
        text = "set b0 3; plus b0 4; end"
        loose = [[(first_state(), 3)], [(state_of([ALL]), 2)], [(state_of([ALL]), 1)]]
        self.stays(text, loose)
        table = in_table(rows(text))
        self.stays(text, [table[0], table[1] + [(state_of([number(9)]), 2)], table[2] + [(state_of([number(13)]), 1)]])
        table = [[(first_state(), 3)], [(state_of([number(3)]), 2)], [(state_of([ALL]), 1)]]
        self.becomes(text, "set b0 3; set b0 7; end", table)
        table = [[(first_state(), 3)], [(state_of([number(3)]), 2), (state_of([number(3)]), 9)], [(state_of([ALL]), 1)]]
        self.becomes(text, "set b0 3; set b0 7; end", table)

    def test_not_where_nothing_comes_of_a_state(self):
        text = "set b0 3; plus b0 6; end"
        table = in_table(rows(text))
        table[1].append((state_of([("number", EMPTY)]), 1))
        self.assertEqual(comes(rows(text), CONTRACT, 1, table[1][1][0]), [])
        self.stays(text, table)
        alone = [table[0], table[1][::-1], table[2]]
        self.stays(text, alone)


class Jump(Checks):
    def test_due(self):
        self.becomes("set b0 3; jump under b0 5 3; end; end", "set b0 3; go 3; end; end")
        self.becomes("set b0 3; jump under b0 3 0; end", "set b0 3; go 2; end")
        self.becomes("jump upto b2 16 2; end; set b0 0; end", "go 2; end; set b0 0; end")
        self.becomes("jump same b1 0 3; set b0 0; end; end", "go 1; set b0 0; end; end")
        self.becomes("jump unlike b0 0 2; end; set b0 0; end", "go 2; end; set b0 0; end")

    def test_due_in_several_states(self):
        self.becomes("set b0 1; jump under b2 4 3; set b3 2; jump same b0 1 5; end; end",
                     "set b0 1; jump under b2 4 3; set b3 2; go 5; end; end")

    def test_due_where_other_answers_come_to_the_same_row(self):
        text = "set b0 1; jump under b2 4 3; set b0 2; jump same b0 1 4; end"
        self.becomes(text, "set b0 1; jump under b2 4 3; set b0 2; go 4; end")

    def test_not_due_where_both_answers_can_come(self):
        self.stays("set b0 0; jump under b2 4 3; set b3 0; end")
        self.stays("set b0 0; jump under b2 4 2; end")
        self.stays("set b1 5; call find; jump same b0 0 5; move b1 b0; call back; set b0 0; end")

    def test_not_due_where_rows_are_unlike(self):
        self.stays("set b0 1; jump under b2 4 3; set b0 2; jump same b0 1 5; end; end")
        self.stays("set b0 0; plus b0 1; jump under b0 3 1; end")

    def test_not_due_where_the_state_itself_does_not_lie_there(self):
        # An odd number from 2 on is not 2, so it is from 3 on: just that is told at the row that comes.
        text = ("set b0 0; jump same b2 0 7; load b3 b1 0; and b3 14; plus b3 1; jump under b3 2 7; jump same b3 2 8; "
                "end; move b0 b5; end")
        program = rows(text)
        table = in_table(program)
        state, left = table[6][0]
        self.assertEqual([row for row, _ in comes(program, CONTRACT, 6, state)], [7])
        self.assertFalse(lies_in(table[7], state, left))
        made = faster(program, CONTRACT, table)
        self.assertEqual(made[6], program[6])
        # Where the table tells less there it is due.
        table[7] = [(state_of([ALL]), 1)]
        made = faster(program, CONTRACT, table)
        self.assertEqual(made[6], ("go", 7))
        self.check(program, made, table)
        # But not where just one with no less left does.
        table = in_table(program)
        table[7].append((state_of([ALL]), left))
        self.assertEqual(faster(program, CONTRACT, table)[6], program[6])
        table[7][-1] = (state_of([ALL]), left - 1)
        self.assertEqual(faster(program, CONTRACT, table)[6], ("go", 7))

    def test_not_where_nothing_comes_of_a_state(self):
        text = "set b0 3; jump bits b0 8 3; end; end"
        table = in_table(rows(text))
        self.becomes(text, "set b0 3; go 2; end; end", table)
        table[1].append((state_of([("number", EMPTY)]), 9))
        table[3].append((state_of([ALL]), 1))
        self.assertEqual(comes(rows(text), CONTRACT, 1, table[1][1][0]), [])
        self.stays(text, table)
        table[1].reverse()
        self.stays(text, table)


class Load(Checks):
    def test_due(self):
        self.becomes("store b0 3 7; load b4 b0 3; move b0 b4; end", "store b0 3 7; set b4 7; move b0 b4; end")
        self.becomes("store b0 3 7; load b0 b0 3; end", "store b0 3 7; set b0 7; end")
        self.becomes("store b0 3 7; jump under b2 4 3; set b3 1; load b0 b0 3; end",
                     "store b0 3 7; jump under b2 4 3; set b3 1; set b0 7; end")

    def test_not_due(self):
        self.stays("store b0 3 b2; load b0 b0 3; end")
        self.stays("store b0 3 b1; load b4 b0 3; set b0 0; end")
        self.stays("jump same b2 0 3; load b0 b1 0; end; set b0 0; end")
        self.stays("store b0 3 7; jump under b2 4 3; store b0 3 8; load b0 b0 3; end")
        self.stays("jump same b2 0 7; load b3 b1 0; store b0 1 b3; load b4 b0 1; and b4 1; move b0 b4; end; set b0 0; end")

    def test_not_of_the_length_though_it_is_known(self):
        self.stays("store b0 3 b2; jump same b2 5 3; go 5; load b0 b0 3; end; set b0 0; end")

    def test_not_of_several_cells(self):
        text = ("store b0 0 7; store b0 1 7; move b4 b0; jump same b2 0 8; load b3 b1 0; and b3 1; plus b4 b3; "
                "load b3 b4 0; set b0 0; end")
        self.stays(text)

    def test_not_of_rooms(self):
        self.stays("set b1 5; call find; jump same b0 0 6; load b4 b0 0; move b1 b0; call back; set b0 0; end")


class Others(Checks):
    def test_all_other_rows_stay(self):
        self.stays("set b0 3; move b3 b0; go 3; move b4 b3; end")
        self.stays("move b4 b0; store b4 0 5; store b4 1 6; set b1 3; move b2 b4; call tell; end")
        self.stays("set b0 5; set b0 5; move b0 b0; end")
        # What is set is the same as ahead, and yet it stays a set; a move of what is known stays a move.
        self.stays("set b4 5; move b0 b4; end")


def loose_table(source, table):
    """A table that is let by as well, perhaps: greater lefts, wider states, more states."""
    table = copy.deepcopy(table)
    step, more = source.choice((1, 1, 3)), source.choice((0, 5))
    table = [[(state, left * step + more) for state, left in entries] for entries in table]
    for _ in range(source.randrange(3)):
        row = source.randrange(len(table))
        if not table[row]:
            continue
        place = source.randrange(len(table[row]))
        state, left = table[row][place]
        wide = turned(state, 0, turned(state[0], source.randrange(6), source.choice((UNSET, ALL))))
        table[row][place] = source.choice(((wide, left), (state, left)))
        table[row].append(source.choice(((lesser_state(source, state), left), (state, left), (state, left + 7))))
    return table


class Drawn(Checks):
    def same_runs(self, source, program, made, bound):
        for _ in range(5):
            given = [source.choice((0, 1, 7, 65535, source.randrange(65536))) for _ in range(source.randrange(17))]
            answers = [source.randrange(-9, 70000) for _ in range(source.randrange(4))]
            shelves = source.choice((None, SHELVES, {"rooms": {3: [1, 2, 3, 4]}, "halls": {9: [5, 6]}}))
            plain = run(program, CONTRACT, given=given, shelves=shelves, answers=answers, most=bound)
            self.assertEqual(run(made, CONTRACT, given=given, shelves=shelves, answers=answers, most=bound), plain)
            self.assertEqual(plain[0], "end")

    def test_told_and_other_tables(self):
        source = random.Random(250)
        turned_rows = loose = 0
        for _ in range(110):
            program = tame_program(source)
            try:
                answer = told(program, CONTRACT, most=400)
            except TooMany:
                continue
            if answer[0] != "in":
                continue
            for table in (answer[1], loose_table(source, answer[1]), loose_table(source, answer[1])):
                if not lets_table(program, CONTRACT, table):
                    with self.assertRaises(NoTable):
                        faster(program, CONTRACT, table)
                    continue
                loose += table != answer[1]
                made = faster(program, CONTRACT, table)
                turned_rows += sum(one != other for one, other in zip(program, made))
                self.check(program, made, table)
                self.same_runs(source, program, made, bound_of(table))
                self.assertEqual(made, plain_faster(program, table))
        self.assertGreater(turned_rows, 200)
        self.assertGreater(loose, 40)


def plain_faster(program, table):
    """Point [25] told a second time."""
    made = []
    for number, row in enumerate(program):
        entries = table[number]
        came = [comes(program, CONTRACT, number, state) for state, _ in entries]
        single = all(len(one) == 1 for one in came)
        new = row
        if not entries:
            new = ("end",)
        elif row[0] in ("do", "load") and single:
            box = row[2] if row[0] == "do" else row[1]
            things = [one[0][1][0][box] for one in came]
            worth = things[0][-1][0] if len(things[0]) == 2 else None
            if things[0][0] == "number" and all(thing == number_thing(worth) for thing in things):
                new = ("set", box, worth)
        elif row[0] == "jump" and single:
            targets = {one[0][0] for one in came}
            if len(targets) == 1:
                to = targets.pop()
                if all(lies_in(table[to], state, left) for state, left in entries):
                    new = ("go", to)
        made.append(new)
    return made


def number_thing(worth):
    return ("number", span(worth, worth))


if __name__ == "__main__":
    unittest.main()
