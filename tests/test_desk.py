"""Points [28] and [29], with the interface's "boundgate/desk.py"."""

import inspect
import random
import unittest

from boundgate import desk as module
from boundgate.desk import Desk
from boundgate.errors import GateError, NoInput, NoName, NoRow, NoText, TooMany
from boundgate.faster import faster
from boundgate.faults import faulting, is_faulting
from boundgate.gate import told
from boundgate.house import House
from boundgate.tables import bound_of
from boundgate.texts import read, shown
from tests.tame import spoiled_program, tame_program
from tests.things import odd_things

CONTRACT = (
    [("rooms", 4)],
    [
        ("find", (("number", 0, 65535),), ("lent", "rooms")),
        ("back", (("room", "rooms"),), ("back",)),
        ("tell", (("number", 0, 255), ("cells", 2)), ("number", 0, 7)),
    ],
)
SEVEN = "set b0 3; plus b0 4; end"
SUM = "set b0 0; set b3 0; jump from b3 b2 8; load b4 b1 0; plus b0 b4; plus b1 1; plus b3 1; go 2; end"
TICK = ("set b4 0; set b1 5; call find; jump same b0 0 9; load b4 b0 0; plus b4 1; store b0 0 b4; move b1 b0; call back; "
        "move b0 b4; end")
TELL = "store b0 0 1; store b0 1 2; move b2 b0; set b1 255; call tell; end"
GREAT = "set b0 0; plus b0 1; jump under b0 1000 1; end"


def program_of(text):
    return read(text.replace("; ", "\n"))


class Checks(unittest.TestCase):
    def setUp(self):
        self.desk = Desk()

    def says(self, row, answer):
        self.assertEqual(self.desk.say(row), answer, row)

    def all_told(self):
        """What a desk tells of all that it keeps."""
        names = self.desk.say("names")
        kept = [] if names == "-" else names.split(" ")
        return (names, [self.desk.say(f"fast {name}") for name in kept], [self.desk.say(f"count {name}") for name in kept],
                [self.desk.say(f"room {key}") for key in range(10)])

    def refused(self, error, row, **fields):
        ahead = self.all_told()
        with self.assertRaises(error) as caught:
            self.desk.say(row)
        self.assertIs(type(caught.exception), error, row)
        for field, wanted in fields.items():
            self.assertEqual(getattr(caught.exception, field), wanted, row)
        self.assertEqual(self.all_told(), ahead)


class Interface(Checks):
    def test_arguments(self):
        self.assertEqual(list(inspect.signature(Desk).parameters), [])
        self.assertEqual(list(inspect.signature(vars(Desk)["say"]).parameters), ["self", "row"])
        self.assertEqual(Desk.__module__, "boundgate.desk")
        self.assertEqual(module.Desk, Desk)
        self.assertEqual(self.desk.say(row="names"), "-")
        self.assertIs(type(self.desk.say("names")), str)


class Rows(Checks):
    def test_let(self):
        self.says(f"let seven {SEVEN}", "in 3")
        self.says(f"let sum {SUM}", "in 100")
        self.says(f"let tick {TICK}", "in 11")
        self.says(f"let tell {TELL}", "in 6")
        self.says("let a set b0 1", "out off")
        self.says("let a end", "out out")
        self.says("let a load b0 b1 0; end", "out outside")
        self.says("let a set b0 0; go 1", "out over")
        self.says("let a call other; end", "out call")
        self.says("names", "seven sum tell tick")

    def test_let_in_the_stead_of_one_there(self):
        self.says(f"let a {SEVEN}", "in 3")
        self.says("run a - -", "7 3")
        self.says("let a end", "out out")
        self.says("count a", "1 3")
        self.says("let a set b0 9; end", "in 2")
        self.says("count a", "0 0")
        self.says("run a - -", "9 2")

    def test_too_many_as_it_is(self):
        self.refused(TooMany, f"let a {GREAT}", size=2000)
        self.refused(TooMany, f"why {GREAT}", size=2000)

    def test_go(self):
        self.says(f"let a {SEVEN}", "in 3")
        self.says("go a", "ok")
        self.says("names", "-")
        self.refused(NoName, "go a", name="a")

    def test_names(self):
        self.says("names", "-")
        for name in ("b", "a", "zzzzzzzz", "c"):
            self.desk.say(f"let {name} {SEVEN}")
        self.says("names", "a b c zzzzzzzz")

    def test_fast(self):
        self.says(f"let seven {SEVEN}", "in 3")
        self.says("fast seven", "set b0 3; set b0 7; end")
        self.says(f"let sum {SUM}", "in 100")
        self.says("fast sum", SUM)
        self.says("let a set b0 1; go 3; move b5 b5; end", "in 3")
        self.says("fast a", "set b0 1; go 3; end; end")

    def test_run(self):
        self.says(f"let sum {SUM}", "in 100")
        self.says(f"let tell {TELL}", "in 6")
        self.says("run sum - -", "0 4")
        self.says("run sum 5 -", "5 10")
        self.says("run sum 1,2,65535 7,8", "2 22")
        self.says("run sum 0,0,0,0,0,0,0,0,0,0,0,0,0,0,0,1 -", "1 100")
        self.says("run tell - -", "0 6")
        self.says("run tell - 3", "3 6")
        self.says("run tell - 9999999999,1", "7 6")
        self.says("count sum", "4 136")
        self.says("count tell", "3 18")

    def test_put_and_room(self):
        self.says("room 5", "-")
        self.says("put 5 1,2,3,4", "ok")
        self.says("room 5", "1,2,3,4")
        self.says("put 5 65535,0,0,9", "ok")
        self.says("put 65535 0,0,0,0", "ok")
        self.says("room 5", "65535,0,0,9")
        self.says("room 65535", "0,0,0,0")
        for key in ("0", "6", "65536", "9999999999"):
            self.says(f"room {key}", "-")

    def test_rooms_from_run_to_run(self):
        self.says(f"let tick {TICK}", "in 11")
        self.says("run tick - -", "0 6")
        self.desk.say("put 5 41,2,3,4")
        self.says("run tick - -", "42 11")
        self.says("run tick 1,2 3", "43 11")
        self.says("room 5", "43,2,3,4")
        self.says("count tick", "3 28")

    def test_why(self):
        self.says(f"why {SEVEN}", "in")
        self.says("why end", "0")
        self.says("why set b0 1; go 3; end; move b0 b5; end", "0 1 3")
        self.says("why set b0 0; go 2; go 1; end", "0 1 2 1")
        self.says("why set b1 5; call find; set b0 0; end", "0 1 2 3")
        self.says("names", "-")

    def test_fault(self):
        self.says(f"fault {SEVEN}", "-")
        self.says("fault jump same b2 0 2; go 3; move b0 b5; set b0 0; end", "- -")
        self.says("fault jump unlike b2 1 2; move b0 b5; set b0 0; end", "0 -")
        self.says("fault jump unlike b2 2 5; load b3 b1 1; jump unlike b3 1 5; load b3 b1 0; jump same b3 65535 6; "
                  "go 7; move b0 b5; set b0 0; end", "65535,1 -")
        text = "store b0 0 1; store b0 1 1; move b2 b0; set b1 0; call tell; jump same b0 0 7; move b0 b5; set b0 0; end"
        answer = self.desk.say(f"fault {text}")
        given, answers = [[] if word == "-" else [int(part) for part in word.split(",")] for word in answer.split(" ")]
        self.assertTrue(is_faulting(program_of(text), CONTRACT, (given, {"rooms": {}}, answers)))
        self.assertNotEqual(answers, [])
        self.says("names", "-")

    def test_two_desks_tell_nothing_of_one_another(self):
        other = Desk()
        self.says(f"let tick {TICK}", "in 11")
        self.says("put 5 1,2,3,4", "ok")
        self.assertEqual((other.say("names"), other.say("room 5")), ("-", "-"))
        self.assertEqual(other.say(f"let tick {TICK}"), "in 11")
        self.assertEqual(other.say("put 5 9,9,9,9"), "ok")
        self.says("run tick - -", "2 11")
        self.assertEqual((other.say("count tick"), other.say("room 5")), ("0 0", "9,9,9,9"))
        self.assertEqual(other.say("go tick"), "ok")
        self.says("names", "tick")


class Refusals(Checks):
    def setUp(self):
        super().setUp()
        self.desk.say(f"let sum {SUM}")
        self.desk.say("put 5 1,2,3,4")

    def test_no_text(self):
        for thing in odd_things() + [0, 7, ("names",), ["names"], b"names"]:
            if not isinstance(thing, str):
                self.refused(NoRow, thing)

    def test_line_feeds(self):
        for row in ("\n", "names\n", "\nnames", "let a set b0 1\nend", f"let a {SEVEN}\n", "why end\n", "why \n", "fault end\nend",
                    "go sum\n", "let a\n end"):
            self.refused(NoRow, row)

    def test_none_of_these_rows(self):
        for row in ("", " ", "name", "Names", "names ", " names", "names a", "names  ", "let", "let ", "let  ", "let a", "let A end",
                    "let a1 end", "let ninelette end", "let  end", " let a end", "Let a end", "leta end", "go", "go ", "go a b",
                    "go  sum", "go sum ", "go SUM", "go a1", "go -", "fast", "fast ", "fast sum sum", "fast Sum", "run", "run sum",
                    "run sum -", "run sum - - -", "run sum  -", "run sum - ", "run  - -", "run Sum - -", "count", "count ",
                    "count sum sum", "count 1", "put", "put 5", "put 5 ", "put 5 1,2,3,4 5", "put  1,2,3,4", "room", "room ",
                    "room 5 5", "room rooms 5", "why", "fault", "Why end", "faults end", "take 5", "drop sum", "end", "in 3", "ok"):
            self.refused(NoRow, row)

    def test_numbers(self):
        for word in ("", ",", "1,", ",1", "1,,2", "-1", "+1", "01", "00", "-0", "1.0", "a", "0x1", "1_0", "12345678901", "1-", "--",
                     "-,1", "1,-", "1;2", "b1", "1,02", "99999999999", "1,2,x"):
            self.refused(NoRow, f"run sum {word} -")
            self.refused(NoRow, f"run sum - {word}")
            self.refused(NoRow, f"put {word} 1,2,3,4")
            self.refused(NoRow, f"put 5 {word}")
            self.refused(NoRow, f"put 5 {word},2,3,4")
            self.refused(NoRow, f"room {word}")
        for word in ("-", "1,2"):
            self.refused(NoRow, f"room {word}")
            self.refused(NoRow, f"put {word} 1,2,3,4")
        for word in ("-", "1", "1,2,3", "1,2,3,4,5"):
            self.refused(NoRow, f"put 5 {word}")

    def test_then_as_the_points_refuse(self):
        for row in ("go a", "fast a", "run a - -", "count a", "run a 99999 -"):
            self.refused(NoName, row, name="a")
        self.refused(NoInput, "run sum 65536 -", part="input")
        self.refused(NoInput, "run sum 9999999999 -", part="input")
        self.refused(NoInput, "run sum 0,0,0,0,0,0,0,0,0,0,0,0,0,0,0,0,0 -", part="input")
        self.refused(NoInput, "put 65536 1,2,3,4", part="shelves")
        self.refused(NoInput, "put 5 1,2,3,65536", part="shelves")
        self.refused(NoInput, "put 9999999999 1,2,3,9999999999", part="shelves")
        # What is no row goes first.
        self.refused(NoRow, "run a 01 -")
        self.refused(NoRow, "put 65536 1,2,3")
        self.refused(NoRow, "run a 65536 x")

    def test_texts(self):
        for head in ("let a", "why", "fault"):
            for text, number in (("", 0), (" ", 0), ("x", 0), ("end;", 0), ("end; ", 1), ("end;end", 0), ("; end", 0), ("end ; end", 0),
                                 ("end; x; y", 1), ("set b0 1;  end", 1), ("go 1", None), ("end; go 2", None), ("set b6 1", 0),
                                 ("set b0 65536", 0), ("set b0 01", 0), ("End", 0), ("; ".join(["end"] * 61), None)):
                self.refused(NoText, f"{head} {text}", number=number)
        self.says("names", "sum")

    def test_kinds(self):
        self.assertTrue(issubclass(NoRow, GateError))


class Drawn(Checks):
    def test_as_the_house_tells(self):
        source = random.Random(280)
        house = House(CONTRACT)
        calls = ("find", "back", "tell")
        for turn in range(60):
            program = tame_program(source, most=35) if turn % 3 else spoiled_program(source, calls)
            text = shown(program).replace("\n", "; ")
            name = source.choice(("a", "b", "c"))
            try:
                answer = told(program, CONTRACT)
            except TooMany:
                self.refused(TooMany, f"let {name} {text}")
                continue
            found = faulting(program, CONTRACT)
            if found is None:
                self.says(f"fault {text}", "-")
            else:
                words = [",".join(str(one) for one in part) or "-" for part in (found[0], found[2])]
                self.says(f"fault {text}", " ".join(words))
            if answer[0] == "out":
                self.says(f"let {name} {text}", f"out {answer[1]}")
                self.says(f"why {text}", " ".join(str(row) for row, _ in answer[2]))
            else:
                house.let(name, program)
                self.says(f"let {name} {text}", f"in {bound_of(answer[1])}")
                self.says(f"why {text}", "in")
                self.says(f"fast {name}", shown(faster(program, CONTRACT, answer[1])).replace("\n", "; "))
            self.same(source, house)

    def same(self, source, house):
        key, room = source.choice((0, 3, 5, 9)), [source.randrange(65536) for _ in range(4)]
        house.put("rooms", key, room)
        self.says(f"put {key} {','.join(str(worth) for worth in room)}", "ok")
        for name in house.names():
            given, answers = [source.randrange(65536) for _ in range(source.randrange(9))], [source.randrange(99)]
            what, steps = house.call(name, given=given, answers=answers)
            words = ",".join(str(worth) for worth in given) or "-"
            self.says(f"run {name} {words} {answers[0]}", f"{what} {steps}")
            self.says(f"count {name}", " ".join(str(part) for part in house.count(name)))
        for key in (0, 3, 5, 9, 4):
            room = house.shelves()["rooms"].get(key)
            self.says(f"room {key}", "-" if room is None else ",".join(str(worth) for worth in room))


if __name__ == "__main__":
    unittest.main()
