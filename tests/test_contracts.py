"""Points [13] and [14], with the interface's "boundgate/contracts.py"."""

import copy
import itertools
import random
import unittest

from boundgate import contracts as module
from boundgate.contracts import call_of, look_at_contract, turned_calls
from boundgate.errors import GateError, NoCall, NoContract
from tests.things import EqualToAll, EqualToNone, odd_things, shape

SHELVES = [("rooms", 4), ("halls", 8)]
NUMBER = ("number", 0, 65535)
FIND = ("find", (NUMBER,), ("lent", "rooms"))
BACK = ("back", (("room", "rooms"),), ("back",))
TELL = ("tell", (("number", 0, 255), ("cells", 2)), ("number", 0, 7))
CALLS = [FIND, BACK, TELL]

GOOD_TAKES = [
    (), (NUMBER,), (("number", 5, 5),), (("number", 65535, 65535),), (("number", 0, 0),),
    (("cells", 1),), (("cells", 8),), (("room", "rooms"),), (("room", "halls"),),
    (NUMBER, ("cells", 3), ("room", "rooms")), (("room", "rooms"), ("room", "rooms"), ("room", "halls")),
    (NUMBER, NUMBER, NUMBER), (("cells", 1), ("cells", 2), ("cells", 8)),
]
NO_TAKES = [
    ("number", 1, 0), ("number", -1, 0), ("number", 0, 65536), ("number", 0), ("number", 0, 1, 2), ("number",),
    ("number", True, 1), ("number", 0, False), ("number", "0", "1"), ("number", None, None), ("number", [0], 1),
    ("cells", 0), ("cells", 9), ("cells", -1), ("cells", True), ("cells", "1"), ("cells",), ("cells", 1, 1),
    ("cells", None), ("cells", [1]), ("room", "nowhere"), ("room", ""), ("room", None), ("room", 0), ("room",),
    ("room", "rooms", 0), ("room", ["rooms"]), ("room", ("rooms",)), ("room", "Rooms"), ("room", b"rooms"),
    ("lent", "rooms"), ("back",), ("Number", 0, 1), ("", 0, 1), (), ("rooms",), ["number", 0, 1], (["number"], 0, 1),
    (0, 0, 1), (None, 0, 1), "number", "rooms", 0, 7,
]
NO_GIVES = [
    ("number", 1, 0), ("number", -1, 0), ("number", 0, 65536), ("number", 0), ("number", 0, 1, 2), ("number",),
    ("number", True, 1), ("number", 0, "1"), ("number", None, 1), ("lent", "nowhere"), ("lent",), ("lent", None),
    ("lent", 0), ("lent", "rooms", 0), ("lent", ["rooms"]), ("lent", "Rooms"), ("back", 0), ("back", "rooms"),
    ("room", "rooms"), ("cells", 1), ("Back",), ("",), (), ["back"], ["number", 0, 1], (["lent"], "rooms"), "back",
    (0,), (None,), 0, 7,
]
NO_NAMES = ["", "abcdefghi", "Tell", "tell1", "te ll", " ", "te_ll", "tell\n", b"tell", None, True, 0, ("tell",), ["t"]]


def call_with(takes, gives):
    return ("some", takes, gives)


class Checks(unittest.TestCase):
    def refused(self, thing, part, number):
        with self.assertRaises(NoContract) as caught:
            look_at_contract(thing)
        self.assertIs(type(caught.exception), NoContract)
        self.assertIsInstance(caught.exception, GateError)
        told = (caught.exception.part, caught.exception.number)
        self.assertEqual(told, (part, number), repr(thing))
        self.assertIs(type(told[1]), type(number))

    def no_call(self, call, ahead=(FIND, BACK)):
        """Neither a first nor a third call, ahead of one that is right."""
        self.refused((SHELVES, [call]), "calls", 0)
        self.refused((SHELVES, [*ahead, call, TELL]), "calls", len(ahead))


class Interface(unittest.TestCase):
    def test_arguments_by_place_and_by_name(self):
        self.assertEqual(shape(look_at_contract), (["thing"], {}))
        self.assertEqual(shape(call_of), (["contract", "name"], {}))
        self.assertEqual(shape(turned_calls), (["one", "other"], {}))
        self.assertIsNone(look_at_contract(thing=([], [])))
        self.assertEqual(call_of(name="find", contract=(SHELVES, CALLS)), FIND[1:])
        self.assertEqual(turned_calls(other=([], []), one=(SHELVES, CALLS)), ["back", "find", "tell"])

    def test_defined_in_the_file(self):
        for name in ("look_at_contract", "call_of", "turned_calls"):
            self.assertEqual(getattr(module, name).__module__, "boundgate.contracts")


class Contracts(Checks):
    def test_ordinary_ones(self):
        self.assertIsNone(look_at_contract((SHELVES, CALLS)))
        self.assertIsNone(look_at_contract(([], [])))
        self.assertIsNone(look_at_contract((SHELVES, [])))
        self.assertIsNone(look_at_contract(([], [("tell", (NUMBER,), ("number", 3, 3))])))

    def test_takes(self):
        for takes in GOOD_TAKES:
            self.assertIsNone(look_at_contract((SHELVES, [call_with(takes, NUMBER)])), takes)
        for take in NO_TAKES + odd_things():
            for takes in ((take,), (NUMBER, take), (NUMBER, ("cells", 1), take), (take, ("room", "rooms"))):
                self.no_call(call_with(takes, NUMBER))

    def test_takes_that_are_no_tuple_or_too_long(self):
        for takes in odd_things() + [[NUMBER], {0: NUMBER}, NUMBER, "number", 0, (NUMBER,) * 4, (("cells", 1),) * 5]:
            self.no_call(call_with(takes, NUMBER))

    def test_numbers_given(self):
        for gives in (NUMBER, ("number", 0, 0), ("number", 65535, 65535), ("number", 3, 9)):
            self.assertIsNone(look_at_contract((SHELVES, [call_with((), gives)])))
        for gives in NO_GIVES + odd_things():
            self.no_call(call_with((), gives))
            self.no_call(call_with((NUMBER,), gives))
            self.no_call(call_with((("room", "rooms"),), gives))

    def test_lent_wants_a_number_first(self):
        for takes in GOOD_TAKES:
            for shelf in ("rooms", "halls"):
                call = call_with(takes, ("lent", shelf))
                if takes and takes[0][0] == "number":
                    self.assertIsNone(look_at_contract((SHELVES, [call])), call)
                else:
                    self.no_call(call)

    def test_back_wants_the_only_room_first(self):
        parts = [NUMBER, ("cells", 2), ("room", "rooms"), ("room", "halls")]
        for many in range(4):
            for takes in itertools.product(parts, repeat=many):
                call = call_with(takes, ("back",))
                rooms = [place for place, take in enumerate(takes) if take[0] == "room"]
                if rooms == [0]:
                    self.assertIsNone(look_at_contract((SHELVES, [call])), call)
                else:
                    self.no_call(call)

    def test_what_is_no_call(self):
        for thing in odd_things() + ["call", 0, 7, (), TELL[:2], TELL + (0,), [*TELL], ("tell",), (TELL,)]:
            self.no_call(thing)
        for name in NO_NAMES + odd_things():
            self.no_call((name,) + TELL[1:])

    def test_what_is_no_shelf(self):
        wrong = odd_things() + ["rooms", 0, 4, (), ("rooms",), ("rooms", 4, 4), ["rooms", 4], (4, "rooms")]
        wrong += [(name, 4) for name in NO_NAMES + odd_things()]
        wrong += [("other", size) for size in [0, 9, -1, 10 ** 59, "4", (4,), [4]] + odd_things()]
        for thing in wrong:
            self.refused(([thing], CALLS), "shelves", 0)
            self.refused((SHELVES + [thing], CALLS), "shelves", 2)
            self.refused((SHELVES + [thing], None), "shelves", 2)

    def test_sizes_and_names_of_shelves(self):
        for size in range(1, 9):
            self.assertIsNone(look_at_contract(([("a", size), ("abcdefgh", size)], [])))
        self.refused(([("a", 1), ("b", 2), ("a", 1)], []), "shelves", 2)
        self.refused(([("a", 1), ("a", 2), ("b", 9)], []), "shelves", 1)
        self.refused(([("a", 1), ("b", 9), ("a", 1)], []), "shelves", 1)

    def test_how_many_shelves(self):
        names = "abcdefgh"
        self.assertIsNone(look_at_contract(([(name, 1) for name in names[:4]], [])))
        self.refused(([(name, 1) for name in names[:5]], []), "shelves", None)
        self.refused(([("a", 0)] * 5, []), "shelves", None)

    def test_how_many_calls(self):
        names = "abcdefghijklm"
        calls = [(name, (), NUMBER) for name in names]
        self.assertIsNone(look_at_contract((SHELVES, calls[:12])))
        self.refused((SHELVES, calls), "calls", None)
        self.refused((SHELVES, [None] * 13), "calls", None)
        self.refused((SHELVES, calls[:11] + [None]), "calls", 11)

    def test_names_of_calls(self):
        self.refused((SHELVES, [FIND, BACK, FIND]), "calls", 2)
        self.refused((SHELVES, [FIND, ("find", (), NUMBER), None]), "calls", 1)
        self.refused((SHELVES, [FIND, None, FIND]), "calls", 1)
        self.assertIsNone(look_at_contract((SHELVES, [("rooms", (), NUMBER)])))

    def test_shelves_and_calls_that_are_no_lists(self):
        for thing in odd_things() + ["", 0, (), tuple(SHELVES), dict(SHELVES), {("rooms", 4)}]:
            if isinstance(thing, list):
                continue
            self.refused((thing, CALLS), "shelves", None)
            self.refused((thing, thing), "shelves", None)
            self.refused((SHELVES, thing), "calls", None)
        self.refused((SHELVES, tuple(CALLS)), "calls", None)

    def test_shelves_go_ahead_of_calls(self):
        self.refused((None, None), "shelves", None)
        self.refused(([None], None), "shelves", 0)
        self.refused(([("a", 1), None], [None]), "shelves", 1)
        self.refused((SHELVES, [FIND, None]), "calls", 1)

    def test_a_named_shelf_is_one_of_shelves(self):
        self.refused(([], [FIND]), "calls", 0)
        self.refused(([], [BACK]), "calls", 0)
        self.refused(([("halls", 4)], [TELL, FIND]), "calls", 1)
        self.refused(([("halls", 4)], [TELL, BACK]), "calls", 1)
        self.assertIsNone(look_at_contract(([("halls", 4)], [TELL])))

    def test_what_is_no_tuple_of_two(self):
        wrong = odd_things() + ["", 0, (), ([],), ([], [], []), [[], []], {0: [], 1: []}, ([], []) + ([],), (CALLS,)]
        for thing in wrong:
            self.refused(thing, None, None)

    def test_what_is_handed_in_stays_as_it_is(self):
        for thing in (
            (list(SHELVES), list(CALLS)), ([["rooms", 4]], []), ([], [["tell", [], {}]]), [[], []],
            ([], [("tell", ([1],), {"a": [2]})]),
        ):
            ahead = copy.deepcopy(thing)
            try:
                look_at_contract(thing)
            except NoContract:
                pass
            self.assertEqual(thing, ahead)


class CallOf(unittest.TestCase):
    def test_each(self):
        contract = (list(SHELVES), list(CALLS))
        for name, takes, gives in CALLS:
            self.assertEqual(call_of(contract, name), (takes, gives))
            self.assertIs(type(call_of(contract, name)), tuple)
        self.assertEqual(contract, (SHELVES, CALLS))

    def test_no_call(self):
        names = ["", "rooms", "halls", "fin", "find ", "Find", "number", 0, ("find",), b"find", [FIND], FIND]
        for name in names + odd_things() + [EqualToAll(), EqualToNone()]:
            for contract in ((SHELVES, CALLS), ([], [])):
                with self.assertRaises(NoCall) as caught:
                    call_of(contract, name)
                self.assertIs(type(caught.exception), NoCall)
                self.assertIsInstance(caught.exception, KeyError)
                self.assertIs(caught.exception.name, name)


class TurnedCalls(unittest.TestCase):
    def both_ways(self, one, other, names):
        look_at_contract(one)
        look_at_contract(other)
        for told in (turned_calls(one, other), turned_calls(other, one)):
            self.assertEqual(told, names)
            self.assertIs(type(told), list)

    def test_the_same(self):
        self.both_ways((SHELVES, CALLS), (SHELVES, CALLS), [])
        self.both_ways((SHELVES, CALLS), (SHELVES[::-1], CALLS[::-1]), [])
        self.both_ways(([], []), ([], []), [])
        self.both_ways(([], []), (SHELVES, []), [])

    def test_in_just_one(self):
        self.both_ways((SHELVES, CALLS), (SHELVES, []), ["back", "find", "tell"])
        self.both_ways((SHELVES, CALLS), (SHELVES, [FIND, TELL]), ["back"])
        self.both_ways((SHELVES, [FIND]), (SHELVES, [TELL, BACK]), ["back", "find", "tell"])

    def test_not_the_same(self):
        for call in (
            ("tell", (("number", 0, 254), ("cells", 2)), ("number", 0, 7)),
            ("tell", (("number", 0, 255), ("cells", 3)), ("number", 0, 7)),
            ("tell", (("number", 0, 255), ("cells", 2)), ("number", 1, 7)),
            ("tell", (("number", 0, 255),), ("number", 0, 7)),
            ("tell", (("cells", 2), ("number", 0, 255)), ("number", 0, 7)),
        ):
            self.both_ways((SHELVES, CALLS), (SHELVES, [BACK, call, FIND]), ["tell"])
        lent = ("find", (NUMBER,), ("lent", "halls"))
        self.both_ways((SHELVES, CALLS), (SHELVES, [lent, BACK, TELL]), ["find"])

    def test_a_shelf_that_is_not_the_same(self):
        self.both_ways((SHELVES, CALLS), ([("rooms", 5), ("halls", 8)], CALLS), ["back", "find"])
        self.both_ways((SHELVES, CALLS), ([("rooms", 4), ("halls", 7)], CALLS), [])
        self.both_ways((SHELVES, CALLS), ([("rooms", 4)], CALLS), [])
        later = ("later", (NUMBER, ("room", "halls")), NUMBER)
        self.both_ways((SHELVES, CALLS + [later]), ([("rooms", 4), ("halls", 7)], CALLS + [later]), ["later"])
        both = ("both", (NUMBER, ("room", "halls")), ("lent", "rooms"))
        self.both_ways((SHELVES, [both]), ([("rooms", 4), ("halls", 7)], [both]), ["both"])
        self.both_ways((SHELVES, [both]), ([("rooms", 3), ("halls", 8)], [both]), ["both"])

    def test_each_once_and_sorted(self):
        lent = ("find", (NUMBER, NUMBER), ("lent", "rooms"))
        self.both_ways((SHELVES, CALLS), ([("rooms", 5)], [TELL, lent]), ["back", "find"])

    def test_drawn(self):
        source = random.Random(14)
        gives = [("number", 0, 1), ("number", 0, 2), ("lent", "a"), ("lent", "b")]
        takes = [(NUMBER,), (NUMBER, ("room", "a")), (NUMBER, ("room", "b")), (NUMBER, ("cells", 1))]
        for _ in range(300):
            pair = []
            for _ in "xy":
                shelves = [("b", source.choice((1, 2))), ("a", source.choice((1, 2)))]
                calls = [(name, source.choice(takes), source.choice(gives)) for name in "pqrs"]
                calls = source.sample(calls, source.randint(1, 4))
                pair.append((shelves, calls))
            wanted = []
            for name in "pqrs":
                parts = [[call for call in contract[1] if call[0] == name] for contract in pair]
                text = repr(parts[0])
                unlike = parts[0] != parts[1]
                for shelf in ("a", "b"):
                    sizes = [dict(contract[0])[shelf] for contract in pair]
                    unlike = unlike or (repr(shelf) in text and sizes[0] != sizes[1])
                if unlike:
                    wanted.append(name)
            ahead = copy.deepcopy(pair)
            self.both_ways(pair[0], pair[1], wanted)
            self.assertEqual(pair, ahead)

    def test_told_lists_are_the_askers_own(self):
        told = turned_calls((SHELVES, CALLS), ([], []))
        told.clear()
        self.assertEqual(turned_calls((SHELVES, CALLS), ([], [])), ["back", "find", "tell"])


if __name__ == "__main__":
    unittest.main()
