"""The interface, "boundgate/errors.py": what each refusal is, is made of, and keeps."""

import unittest

from boundgate import errors
from tests.things import odd_things

OF_A_TEXT = ("NoWord", "NoBit", "NoTable", "Bare", "Shut", "NoRow")
OF_FIELDS = {
    "NoProgram": ("number",),
    "NoText": ("number",),
    "NoContract": ("part", "number"),
    "NoInput": ("part",),
    "TooMany": ("size",),
    "NotLet": ("word", "way"),
}
BESIDE = {"NoCall": KeyError, "NoName": KeyError, "NoShelf": LookupError}
UNDER = OF_A_TEXT + tuple(OF_FIELDS)


def fields_of(name):
    return ("name",) if name in BESIDE else OF_FIELDS[name]


class Kinds(unittest.TestCase):
    def test_gate_error_stands_directly_under_value_error(self):
        self.assertEqual(errors.GateError.__bases__, (ValueError,))

    def test_each_stands_directly_under_gate_error(self):
        for name in UNDER:
            self.assertEqual(getattr(errors, name).__bases__, (errors.GateError,), name)

    def test_none_stands_under_another_one(self):
        names = UNDER + tuple(BESIDE)
        for one in names:
            for other in names:
                stands = issubclass(getattr(errors, one), getattr(errors, other))
                self.assertEqual(stands, one == other, (one, other))

    def test_those_beside_are_no_gate_errors(self):
        for name, base in BESIDE.items():
            kind = getattr(errors, name)
            self.assertEqual(kind.__bases__, (base,), name)
            self.assertFalse(issubclass(kind, ValueError), name)
        self.assertFalse(issubclass(errors.NoShelf, KeyError))

    def test_each_is_defined_in_its_file_under_its_name(self):
        for name in ("GateError",) + UNDER + tuple(BESIDE):
            kind = getattr(errors, name)
            self.assertEqual((kind.__module__, kind.__name__), ("boundgate.errors", name))

    def test_each_is_raised_and_caught(self):
        for name in OF_A_TEXT:
            with self.assertRaises(errors.GateError) as caught:
                raise getattr(errors, name)("why")
            self.assertIs(type(caught.exception), getattr(errors, name))
            self.assertIsInstance(caught.exception, ValueError)
        with self.assertRaises(KeyError):
            raise errors.NoCall("tell")
        with self.assertRaises(KeyError):
            raise errors.NoName("some")
        with self.assertRaises(LookupError):
            raise errors.NoShelf("rooms")


class Fields(unittest.TestCase):
    def names(self):
        return tuple(OF_FIELDS) + tuple(BESIDE)

    def test_made_by_place(self):
        for name in self.names():
            fields = fields_of(name)
            for thing in odd_things() + [3, "text", (1, [2]), 10 ** 59]:
                things = [thing] + [object() for _ in fields[1:]]
                made = getattr(errors, name)(*things)
                for field, wanted in zip(fields, things):
                    self.assertIs(getattr(made, field), wanted, (name, field))

    def test_made_by_name(self):
        for name in self.names():
            fields = fields_of(name)
            for thing in odd_things() + [3, "text", (1, [2]), 10 ** 59]:
                things = {field: object() for field in fields}
                things[fields[-1]] = thing
                made = getattr(errors, name)(**things)
                for field, wanted in things.items():
                    self.assertIs(getattr(made, field), wanted, (name, field))

    def test_made_half_by_place_and_half_by_name(self):
        made = errors.NoContract("calls", number=3)
        self.assertEqual((made.part, made.number), ("calls", 3))
        way = [(0, ())]
        made = errors.NotLet("kind", way=way)
        self.assertEqual(made.word, "kind")
        self.assertIs(made.way, way)

    def test_no_field_may_be_left_out_or_be_too_many(self):
        for name in self.names():
            fields = fields_of(name)
            with self.assertRaises(TypeError):
                getattr(errors, name)(*[0 for _ in fields[1:]])
            with self.assertRaises(TypeError):
                getattr(errors, name)(*[0 for _ in fields], 0)

    def test_what_is_kept_stays_as_it_is(self):
        way = [(0, [1, 2])]
        errors.NotLet("kind", way)
        self.assertEqual(way, [(0, [1, 2])])

    def test_one_refusal_keeps_nothing_of_another(self):
        one, other = errors.NoProgram(1), errors.NoProgram(2)
        self.assertEqual((one.number, other.number), (1, 2))


if __name__ == "__main__":
    unittest.main()
