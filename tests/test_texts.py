"""Point [12], with the interface's "boundgate/texts.py"."""

import random
import unittest

from boundgate import texts as module
from boundgate.errors import GateError, NoText
from boundgate.programs import look_at_program
from boundgate.texts import read, shown
from boundgate.worths import ASKS, DEEDS
from tests.drawn import drawn_program
from tests.things import odd_things, shape

ROWS = {
    "set b0 7": ("set", 0, 7),
    "set b5 0": ("set", 5, 0),
    "set b3 65535": ("set", 3, 65535),
    "move b1 b2": ("move", 1, 2),
    "move b5 b0": ("move", 5, 0),
    "jump under b0 7 12": ("jump", "under", 0, ("worth", 7), 12),
    "jump same b4 b5 0": ("jump", "same", 4, ("box", 5), 0),
    "go 3": ("go", 3),
    "go 0": ("go", 0),
    "go 12": ("go", 12),
    "load b0 b1 -2": ("load", 0, 1, -2),
    "load b5 b4 15": ("load", 5, 4, 15),
    "load b5 b4 0": ("load", 5, 4, 0),
    "load b2 b3 -8": ("load", 2, 3, -8),
    "store b1 0 b2": ("store", 1, 0, ("box", 2)),
    "store b1 -8 65535": ("store", 1, -8, ("worth", 65535)),
    "store b1 15 0": ("store", 1, 15, ("worth", 0)),
    "call tell": ("call", "tell"),
    "call a": ("call", "a"),
    "call abcdefgh": ("call", "abcdefgh"),
    "call end": ("call", "end"),
    "end": ("end",),
}
ROWS.update({f"{word} b0 b1": ("do", word, 0, ("box", 1)) for word in DEEDS})
ROWS.update({f"{word} b0 7": ("do", word, 0, ("worth", 7)) for word in DEEDS})
ROWS.update({f"{word} b5 65535": ("do", word, 5, ("worth", 65535)) for word in DEEDS})
ROWS.update({f"jump {word} b2 b3 5": ("jump", word, 2, ("box", 3), 5) for word in ASKS})
ROWS.update({f"jump {word} b2 0 12": ("jump", word, 2, ("worth", 0), 12) for word in ASKS})

# A row is written alone in a program of thirteen, so that it may jump to row 12.
REST = ["end"] * 12

NO_ROWS = [
    "", " ", "  ", "end ", " end", "end end", "End", "END", "stop", "ends", "en", "\t", "end\t", "end\r", "\rend",
    "set", "set b0", "set b0 7 7", "set  b0 7", "set b0  7", "set b0 7 ", " set b0 7", "set\tb0 7", "set b0\t7",
    "set 0 7", "set b6 7", "set b-1 7", "set b00 7", "set b01 7", "set b 7", "set bb 7", "set B0 7", "set b0 b1",
    "set b+1 7", "set b1.0 7", "set b10 7", "set b-0 7", "set b0 0b1",
    "set b0 07", "set b0 00", "set b0 +7", "set b0 -7", "set b0 -0", "set b0 +0", "set b0 65536", "set b0 7.0",
    "set b0 7.", "set b0 0x7", "set b0 7e0", "set b0 1_0", "set b0 seven", "set b0 -", "set b0 None", "set b0 True",
    "set b0 --7", "set b0 " + "9" * 20, "set b0 " + "9" * 5500, "set b0 " + "0" * 5500, "set b0 -" + "9" * 5500,
    "b0 7", "b0 set 7", "SET b0 7", "Set b0 7",
    "move b0", "move b0 7", "move 0 1", "move b0 b6", "move b6 b0", "move b0 b1 b2", "move b0 b", "move b0b1",
    "plus", "plus b0", "plus b0 b6", "plus b6 b0", "plus b0 b1 b2", "plus 7 b0", "plus b0 -1", "plus b0 65536",
    "plus b0 07", "plus b0 b01", "plus b0 b", "plus b0 -b1", "do plus b0 b1", "do plus b0 7", "Plus b0 7",
    "xor b0 7", "add b0 7", "same b0 7", "under b0 7",
    "jump", "jump under b0 7", "jump b0 7 12", "jump under b0 7 12 0", "jump plus b0 7 12", "jump under b0 7 60",
    "jump under b0 7 -1", "jump under b0 7 b1", "jump under b0 7 012", "jump under b0 7 +1", "jump under b0 7 -0",
    "jump under 7 b0 12", "jump under b6 7 12", "jump under b0 b6 12", "jump under b0 65536 12", "jump Under b0 7 12",
    "jump under b0 7 ", "jump  b0 7 12", "jump under b0  12", "jump under b0 7 " + "1" * 5000,
    "go", "go 60", "go -1", "go 03", "go +3", "go b0", "go 3 3", "go  3", "go 3 ", "go -0", "go 00", "go three",
    "load b0 b1", "load b0 b1 16", "load b0 b1 -9", "load b0 1 2", "load 0 b1 2", "load b0 b1 b2", "load b0 b1 -0",
    "load b0 b1 +2", "load b0 b1 02", "load b0 b1 -02", "load b0 b1 2 2", "load b6 b1 2", "load b0 b6 2",
    "load b0 b1 - 2", "load b0 b1 --2", "load b0 b1 ", "load b0 b1 -",
    "store b1 0", "store b1 b2 0", "store b1 16 b2", "store b1 -9 b2", "store b1 -0 b2", "store b1 00 b2",
    "store b1 0 b6", "store b6 0 b2", "store b1 0 65536", "store b1 0 -1", "store b1 0 b2 b3", "store 1 0 b2",
    "store b1 0 ", "store b1  b2",
    "call", "call ", "call Tell", "call tell tell", "call tell1", "call abcdefghi", "call  tell", "call te-ll",
    "call tell ", "call 1", "tell", "#", "; end", "end;", "end; end",
]


class Checks(unittest.TestCase):
    def refused(self, text, number):
        with self.assertRaises(NoText) as caught:
            read(text)
        self.assertIs(type(caught.exception), NoText)
        self.assertIsInstance(caught.exception, GateError)
        self.assertEqual(caught.exception.number, number, repr(text)[:200])
        self.assertIs(type(caught.exception.number), type(number))


class Interface(unittest.TestCase):
    def test_arguments_by_place_and_by_name(self):
        self.assertEqual(shape(shown), (["program"], {}))
        self.assertEqual(shape(read), (["text"], {}))
        self.assertEqual(shown(program=[("end",)]), "end")
        self.assertEqual(read(text="end"), [("end",)])

    def test_defined_in_the_file(self):
        for name in ("shown", "read"):
            self.assertEqual(getattr(module, name).__module__, "boundgate.texts")


class Written(unittest.TestCase):
    def test_each_kind_of_row(self):
        for text, row in ROWS.items():
            program = [row] + [("end",)] * 12
            look_at_program(program)
            self.assertEqual(shown(program), "\n".join([text] + REST))
            self.assertEqual(read("\n".join([text] + REST)), program)
            self.assertEqual(read("\n".join(REST + [text])), program[1:] + [row])

    def test_one_row(self):
        self.assertEqual(shown([("end",)]), "end")
        self.assertEqual(shown([("go", 0)]), "go 0")
        self.assertEqual(read("go 0"), [("go", 0)])

    def test_rows_are_parted_by_line_feeds(self):
        program = [("set", 0, 7), ("do", "plus", 0, ("box", 2)), ("end",)]
        self.assertEqual(shown(program), "set b0 7\nplus b0 b2\nend")
        self.assertEqual(read("set b0 7\nplus b0 b2\nend"), program)

    def test_kinds_of_what_is_told(self):
        told = read("set b0 7\nend")
        self.assertIs(type(told), list)
        self.assertEqual([type(row) for row in told], [tuple, tuple])
        self.assertIs(type(shown(told)), str)

    def test_drawn_programs_are_read_back(self):
        source = random.Random(12)
        for _ in range(300):
            program = drawn_program(source)
            ahead = list(program)
            text = shown(program)
            self.assertEqual(program, ahead)
            self.assertRegex(text, r"\A[a-z0-9 \n-]+\Z")
            self.assertEqual(read(text), program)
            self.assertEqual(shown(read(text)), text)

    def test_told_lists_are_the_askers_own(self):
        told = read("end")
        told.append(("nothing",))
        self.assertEqual(read("end"), [("end",)])

    def test_sixty_rows(self):
        text = "\n".join(["go 59"] * 60)
        self.assertEqual(read(text), [("go", 59)] * 60)
        self.assertEqual(shown([("go", 59)] * 60), text)


class Refused(Checks):
    def test_what_is_no_text(self):
        for thing in odd_things() + [0, 7, ("end",), ["end"], [("end",)], b"end", {"end": 1}, ("set", 0, 7)]:
            if not isinstance(thing, str):
                self.refused(thing, None)

    def test_each_row_that_writes_none(self):
        for text in NO_ROWS:
            self.refused(text, 0)
            self.refused("\n".join([text] + REST), 0)
            self.refused("\n".join(REST + [text]), 12)
            self.refused("\n".join(["end", text, "end"]), 1)

    def test_the_first_counts(self):
        self.refused("end\nnothing\nend\nnothing", 1)
        self.refused("end\nend\n\nnothing", 2)
        self.refused("nothing\n\n\n", 0)

    def test_empty_rows(self):
        self.refused("", 0)
        self.refused("\n", 0)
        self.refused("end\n", 1)
        self.refused("\nend", 0)
        self.refused("end\n\nend", 1)
        self.refused("set b0 7\nend\n", 2)
        self.refused("end\n" * 60, 60)

    def test_all_rows_write_one_but_they_make_no_program(self):
        self.refused("go 1", None)
        self.refused("go 59", None)
        self.refused("end\njump same b0 0 2", None)
        self.refused("\n".join(["end"] * 59 + ["go 59", "end"]), None)
        self.refused("\n".join(["end"] * 61), None)
        self.refused("\n".join(["end"] * 500), None)

    def test_a_row_that_writes_none_goes_ahead_of_that(self):
        self.refused("go 59\nnothing", 1)
        self.refused("\n".join(["end"] * 61 + ["nothing"]), 61)
        self.refused("\n".join(["end"] * 60 + [""]), 60)

    def test_to_is_any_number_to_59_by_itself(self):
        self.refused("go 60", 0)
        self.refused("go 59", None)
        self.refused("jump same b0 0 60", 0)
        self.refused("jump same b0 0 59", None)

    def test_signs_put_in_left_out_and_exchanged(self):
        # What is read is read just so: a text that is not refused is written so again.
        source = random.Random(120)
        signs = " -0123456789abcdefghijklmnopqrstuvwxyzB_+.;#~\n"
        for _ in range(4000):
            text = shown(drawn_program(source, most=5))
            place = source.randrange(len(text) + 1)
            way = source.randrange(3)
            if way == 0:
                turned = text[:place] + source.choice(signs) + text[place:]
            elif way == 1:
                turned = text[:place] + text[place + 1:]
            else:
                turned = text[:place] + source.choice(signs) + text[place + 1:]
            try:
                program = read(turned)
            except NoText as refusal:
                self.check_number(turned, refusal.number)
            else:
                look_at_program(program)
                self.assertEqual(shown(program), turned)

    def check_number(self, text, number):
        """The rows ahead of the number write rows by themselves, that one doesn't."""
        rows = text.split("\n")
        for row in rows[:number]:
            self.assertEqual(shown(read("\n".join([row] + ["end"] * 59))[:1]), row)
        if number is not None:
            self.refused("\n".join([rows[number]] + ["end"] * 59), 0)


if __name__ == "__main__":
    unittest.main()
