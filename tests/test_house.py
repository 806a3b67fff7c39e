"""Points [26] and [27], with the interface's "boundgate/house.py"; of point [3] (a) and (g)."""

import copy
import inspect
import random
import unittest
from unittest import mock

from boundgate import house as module
from boundgate.errors import NoContract, NoInput, NoName, NoProgram, NoShelf, NotLet, Shut, TooMany
from boundgate.faster import faster
from boundgate.gate import told
from boundgate.house import House
from boundgate.runner import run
from boundgate.tables import bound_of
from boundgate.texts import read
from tests.plain import CONTRACT, SHELVES
from tests.tame import tame_program
from tests.things import odd_things

BARE = ([], [])
NONE = {"rooms": {}, "halls": {}}
METHODS = {
    "let": ["name", "program"], "drop": ["name"], "call": ["name", "given", "answers"], "call_all": ["calls", "watcher"],
    "contract_is": ["contract"], "names": [], "contract": [], "shelves": [], "program": ["name"], "bound": ["name"],
    "count": ["name"], "put": ["shelf", "key", "room"], "take": ["shelf", "key"],
}


def rows(text):
    return read(text.replace("; ", "\n"))


SEVEN = rows("set b0 3; plus b0 4; end")
# The room of key 5: its first cell goes up by one, and is told; 0 where there is none.
TICK = rows("set b4 0; set b1 5; call find; jump same b0 0 9; load b4 b0 0; plus b4 1; store b0 0 b4; move b1 b0; call back; "
            "move b0 b4; end")
# The cells of the input are put together.
SUM = rows("set b0 0; set b3 0; jump from b3 b2 8; load b4 b1 0; plus b0 b4; plus b1 1; plus b3 1; go 2; end")
ASK = rows("call ask; end")
TWICE = rows("call ask; move b4 b0; call ask; plus b0 b4; end")
LONG = rows("set b0 0; plus b0 1; jump under b0 100 1; end")


def no_lists():
    return [thing for thing in odd_things() if not isinstance(thing, list)]


def all_told(house):
    """All that a house tells."""
    names = house.names()
    return copy.deepcopy((
        names, house.contract(), house.shelves(), [house.program(name) for name in names],
        [house.bound(name) for name in names], [house.count(name) for name in names],
    ))


def filled(**programs):
    house = House(CONTRACT, SHELVES)
    for name, program in programs.items():
        house.let(name, program)
    return house


def with_calls(turned, contract=CONTRACT):
    """A contract with other calls by name: None where one goes."""
    calls = [(call[0], *turned.get(call[0], call[1:])) for call in contract[1] if turned.get(call[0], call) is not None]
    return (list(contract[0]), calls + [(name, *call) for name, call in turned.items()
                                        if call is not None and name not in [one[0] for one in contract[1]]])


class Checks(unittest.TestCase):
    def refused(self, error, action, house, **fields):
        """An action is refused, and changes nothing."""
        ahead = all_told(house)
        with self.assertRaises(error) as caught:
            action()
        self.assertIs(type(caught.exception), error)
        for field, wanted in fields.items():
            self.assertEqual(getattr(caught.exception, field), wanted)
        self.assertEqual(all_told(house), ahead)
        return caught.exception


class Interface(Checks):
    def test_arguments_by_place_and_by_name(self):
        parameters = inspect.signature(House).parameters
        self.assertEqual(list(parameters), ["contract", "shelves", "most"])
        self.assertIs(parameters["shelves"].default, None)
        self.assertEqual((parameters["most"].default, parameters["most"].kind), (2000, inspect.Parameter.KEYWORD_ONLY))
        self.assertEqual(House.__module__, "boundgate.house")
        self.assertEqual(module.House, House)
        for name, arguments in METHODS.items():
            self.assertIn(name, vars(House))
            self.assertEqual(list(inspect.signature(vars(House)[name]).parameters), ["self"] + arguments)
        for name, defaults in (("call", {"given": (), "answers": ()}), ("call_all", {"watcher": None})):
            for argument, default in defaults.items():
                parameter = inspect.signature(vars(House)[name]).parameters[argument]
                self.assertEqual((parameter.default, parameter.kind), (default, inspect.Parameter.KEYWORD_ONLY))

    def test_by_names(self):
        house = House(most=50, shelves=SHELVES, contract=CONTRACT)
        self.assertEqual(house.let(program=SUM[:2] + [("end",)], name="two"), 3)
        self.assertEqual(house.call(name="two", answers=[], given=[1]), (0, 3))
        self.assertEqual(house.call_all(calls=[("two", [], [])], watcher=lambda name, told_so: None), [(0, 3)])
        self.assertEqual((house.bound(name="two"), house.count(name="two")), (3, (2, 6)))
        self.assertEqual(house.program(name="two"), SUM[:2] + [("end",)])
        self.assertIsNone(house.put(room=[1, 2], key=9, shelf="halls"))
        self.assertEqual(house.take(key=9, shelf="halls"), [1, 2])
        self.assertEqual(house.contract_is(contract=CONTRACT), [])
        self.assertIsNone(house.drop(name="two"))
        for action in (lambda: House(CONTRACT, None, 50), lambda: house.call("two", [1]),
                       lambda: house.call_all([], lambda name, told_so: None)):
            with self.assertRaises(TypeError):
                action()

    def test_kinds_of_what_is_told(self):
        house = filled(sum=SUM)
        self.assertEqual([type(part) for part in (
            house.let("seven", SEVEN), house.call("sum"), house.call_all([]), house.contract_is(CONTRACT), house.names(),
            house.contract(), house.shelves(), house.program("sum"), house.bound("sum"), house.count("sum"),
            house.take("rooms", 5))], [int, tuple, list, list, list, tuple, dict, list, int, tuple, list])
        for part in (house.drop("sum"), house.put("rooms", 5, [1, 2, 3, 4]), house.take("rooms", 77)):
            self.assertIsNone(part)


class Made(Checks):
    def test_made(self):
        self.assertEqual(all_told(House(CONTRACT)), ([], CONTRACT, NONE, [], [], []))
        self.assertEqual(all_told(House(CONTRACT, SHELVES)), ([], CONTRACT, SHELVES, [], [], []))
        self.assertEqual(all_told(House(BARE)), ([], BARE, {}, [], [], []))
        self.assertEqual(all_told(House(BARE, {})), ([], BARE, {}, [], [], []))

    def test_no_contract(self):
        for thing in odd_things() + ["", 0, ([],), ([], [], []), ((), ()), ([("a", 9)], []), ([], [("a", (), ("b",))])]:
            with self.assertRaises(NoContract):
                House(thing)
            with self.assertRaises(NoContract):
                House(thing, 7)
        with self.assertRaises(NoContract) as caught:
            House(([("a", 1), ("a", 2)], []), {})
        self.assertEqual((caught.exception.part, caught.exception.number), ("shelves", 1))

    def test_no_shelves(self):
        things = [thing for thing in odd_things() if thing is not None]
        for thing in things + [{"rooms": {}}, {**NONE, "other": {}}, {"rooms": {1: [1]}, "halls": {}}, [], 0, ""]:
            with self.assertRaises(NoInput) as caught:
                House(CONTRACT, thing)
            self.assertEqual(caught.exception.part, "shelves")


class Let(Checks):
    def test_kept_made_faster(self):
        house = House(CONTRACT)
        self.assertEqual(house.let("seven", SEVEN), 3)
        self.assertEqual(house.program("seven"), rows("set b0 3; set b0 7; end"))
        self.assertEqual((house.names(), house.bound("seven"), house.count("seven")), (["seven"], 3, (0, 0)))
        for name, program in (("tick", TICK), ("sum", SUM), ("ask", ASK), ("long", LONG), ("a", TWICE), ("zzzzzzzz", ASK)):
            table = told(program, CONTRACT)[1]
            self.assertEqual(house.let(name, program), bound_of(table))
            self.assertEqual(house.program(name), faster(program, CONTRACT, table))
            self.assertEqual(house.bound(name), bound_of(table))
        self.assertEqual(house.names(), ["a", "ask", "long", "seven", "sum", "tick", "zzzzzzzz"])

    def test_in_the_stead_of_one_there(self):
        house = filled(one=SEVEN, other=ASK)
        house.call("one")
        house.call("other")
        self.assertEqual(house.let("one", SUM), 100)
        self.assertEqual((house.count("one"), house.bound("one"), house.program("one")), ((0, 0), 100, SUM))
        self.assertEqual(house.count("other"), (1, 2))
        house.call("one")
        house.let("one", SUM)
        self.assertEqual(house.count("one"), (0, 0))

    def test_no_name(self):
        house = filled(one=SEVEN)
        for name in odd_things() + ["", "Ab", "a1", "a b", "ninelette", "a\n", 0, ("a",), ["a"]]:
            for program in (SEVEN, 7):
                refusal = self.refused(NoName, lambda: house.let(name, program), house)
                self.assertIs(refusal.name, name)

    def test_no_program(self):
        house = filled(one=SEVEN)
        for program in no_lists() + ["", 0, (), tuple(SEVEN), [], SEVEN * 21]:
            self.refused(NoProgram, lambda: house.let("one", program), house, number=None)
        self.refused(NoProgram, lambda: house.let("two", SEVEN[:1] + [("go", 9)]), house, number=1)
        self.refused(NoProgram, lambda: house.let("one", [7]), house, number=0)

    def test_not_let(self):
        house = filled(one=SEVEN)
        for text in ("end", "set b0 0; go 1", "set b0 1; load b0 b1 0; end", "set b0 1", "set b0 0; call other; end"):
            _, word, way = told(rows(text), CONTRACT)
            for name in ("one", "two"):
                refusal = self.refused(NotLet, lambda: house.let(name, rows(text)), house, word=word, way=way)
                refusal.way.clear()
                refusal = self.refused(NotLet, lambda: house.let(name, rows(text)), house, word=word, way=way)

    def test_too_many(self):
        house = House(CONTRACT, most=50)
        house.let("one", SEVEN)
        self.refused(TooMany, lambda: house.let("one", LONG), house, size=50)
        self.refused(TooMany, lambda: House(CONTRACT, most=1).let("a", SEVEN), house, size=1)
        self.assertEqual(House(CONTRACT, most=202).let("a", LONG), 202)
        self.refused(TooMany, lambda: House(CONTRACT, most=201).let("a", LONG), house, size=201)
        great = rows("set b0 0; plus b0 1; jump under b0 1000 1; end")
        self.refused(TooMany, lambda: House(CONTRACT).let("a", great), house, size=2000)

    def test_what_was_handed_in_changed_behind_changes_nothing(self):
        program, contract, shelves = list(SEVEN), copy.deepcopy(CONTRACT), copy.deepcopy(SHELVES)
        house = House(contract, shelves)
        house.let("seven", program)
        house.let("tick", TICK)
        ahead = all_told(house)
        program.clear()
        contract[0].clear()
        contract[1].clear()
        shelves["rooms"][5][0] = 77
        shelves["halls"].clear()
        self.assertEqual(all_told(house), ahead)
        self.assertEqual(house.call("tick"), (10, 11))
        self.assertEqual(house.contract_is(with_calls({"ask": ((), ("number", 0, 1))})), [])

    def test_what_is_told_is_the_askers_own(self):
        house = filled(seven=SEVEN, tick=TICK)
        ahead = all_told(house)
        for _ in range(2):
            house.names().clear()
            house.contract()[0].clear()
            house.contract()[1].clear()
            house.shelves()["rooms"][5].clear()
            house.shelves()["halls"].clear()
            house.shelves().clear()
            house.program("seven").clear()
            self.assertEqual(all_told(house), ahead)
        names, contract, shelves, program = house.names(), house.contract(), house.shelves(), house.program("tick")
        house.call("tick")
        house.drop("seven")
        house.contract_is(with_calls({"ask": None}))
        self.assertEqual((names, contract, shelves, program), (ahead[0], ahead[1], ahead[2], ahead[3][1]))


class Names(Checks):
    def test_no_name_of_any_kind(self):
        house = filled(one=SEVEN)
        for name in odd_things() + ["", "two", "ONE", "one ", 0, ("one",), ["one"], {"one": 1}]:
            for action in (lambda: house.drop(name), lambda: house.call(name), lambda: house.program(name),
                           lambda: house.bound(name), lambda: house.count(name), lambda: house.call(name, given=7, answers=7)):
                self.assertIs(self.refused(NoName, action, house).name, name)

    def test_drop(self):
        house = filled(one=SEVEN, two=SUM)
        house.call("two")
        house.drop("one")
        self.assertEqual((house.names(), house.count("two"), house.bound("two")), (["two"], (1, 4), 100))
        self.refused(NoName, lambda: house.drop("one"), house)
        house.let("one", ASK)
        self.assertEqual((house.names(), house.count("one")), (["one", "two"], (0, 0)))
        house.drop("one")
        house.drop("two")
        self.assertEqual(all_told(house), ([], CONTRACT, SHELVES, [], [], []))


class Call(Checks):
    def test_what_and_steps(self):
        house = filled(sum=SUM, ask=ASK, twice=TWICE)
        self.assertEqual(house.call("sum"), (0, 4))
        self.assertEqual(house.call("sum", given=[1, 2, 3]), (6, 22))
        self.assertEqual(house.call("sum", given=(65535,) * 16), (65520, 100))
        self.assertEqual(house.call("ask"), (10, 2))
        self.assertEqual(house.call("ask", answers=[2]), (12, 2))
        self.assertEqual(house.call("twice", answers=(1, 2)), (23, 5))
        self.assertEqual(house.call("twice", answers=[-1]), (24, 5))
        self.assertEqual([house.count(name) for name in house.names()], [(2, 4), (3, 126), (2, 10)])

    def test_shelves_from_call_to_call(self):
        house = filled(tick=TICK)
        for worth in range(10, 15):
            self.assertEqual(house.call("tick"), (worth, 11))
            self.assertEqual(house.shelves(), {**SHELVES, "rooms": {**SHELVES["rooms"], 5: [worth] + SHELVES["rooms"][5][1:]}})
        self.assertEqual(house.take("rooms", 5), [14, 0, 65535, 7])
        self.assertEqual(house.call("tick"), (0, 6))
        house.put("rooms", 5, [99, 1, 2, 3])
        self.assertEqual(house.call("tick"), (100, 11))
        self.assertEqual(house.count("tick"), (7, 72))

    def test_as_run_tells(self):
        source = random.Random(260)
        done = 0
        for _ in range(50):
            house = House(CONTRACT, SHELVES, most=400)
            program = tame_program(source)
            try:
                house.let("a", program)
            except (NotLet, TooMany):
                continue
            shelves, often, in_all = SHELVES, 0, 0
            for _ in range(4):
                given = [source.randrange(65536) for _ in range(source.randrange(17))]
                answers = [source.randrange(-9, 99) for _ in range(source.randrange(4))]
                word, what, steps, shelves = run(program, CONTRACT, given=given, shelves=shelves, answers=answers)
                self.assertEqual((word, house.call("a", given=given, answers=answers)), ("end", (what, steps)))
                often, in_all = often + 1, in_all + steps
                self.assertEqual((house.shelves(), house.count("a")), (shelves, (often, in_all)))
                self.assertLessEqual(steps, house.bound("a"))
                done += 1
        self.assertGreater(done, 80)

    def test_more_rows_than_a_plain_run_may_do(self):
        house = House(CONTRACT)
        self.assertEqual(house.let("a", rows("set b0 0; plus b0 1; jump under b0 900 1; end")), 1802)
        self.assertEqual(house.call("a"), (900, 1802))

    def test_no_input(self):
        house = filled(sum=SUM, tick=TICK)
        for thing in no_lists() + ["", 0, None, {}, [65536], [-1], [True], [None], [0] * 17, ["1"], ([1],), [[]]]:
            self.refused(NoInput, lambda: house.call("sum", given=thing), house, part="input")
            self.refused(NoInput, lambda: house.call("tick", given=thing, answers=7), house, part="input")
        for thing in no_lists() + ["", 0, {}, [True], [None], ["1"], ([1],), [[]]]:
            self.refused(NoInput, lambda: house.call("tick", answers=thing), house, part="answers")

    def test_what_is_handed_in_stays(self):
        house = filled(tick=TICK)
        given, answers = [1, 2], [3]
        house.call("tick", given=given, answers=answers)
        self.assertEqual((given, answers), ([1, 2], [3]))


class PutAndTake(Checks):
    def test_put(self):
        house = House(CONTRACT)
        house.put("rooms", 0, [1, 2, 3, 4])
        house.put("rooms", 65535, [65535] * 4)
        house.put("halls", 0, [5, 6])
        self.assertEqual(house.shelves(), {"rooms": {0: [1, 2, 3, 4], 65535: [65535] * 4}, "halls": {0: [5, 6]}})
        house.put("rooms", 0, [4, 3, 2, 1])
        self.assertEqual(house.shelves()["rooms"][0], [4, 3, 2, 1])

    def test_take(self):
        house = House(CONTRACT, SHELVES)
        self.assertEqual(house.take("rooms", 5), [9, 0, 65535, 7])
        self.assertIsNone(house.take("rooms", 5))
        self.assertIsNone(house.take("halls", 5))
        self.assertEqual(house.take("halls", 3), [6, 6])
        self.assertEqual(house.shelves(), {"rooms": {0: [1, 2, 3, 4], 7: [0, 0, 0, 0]}, "halls": {0: [0, 65535]}})

    def test_refusals(self):
        house = filled(tick=TICK)
        for shelf in odd_things() + ["", "other", "room", "ROOMS", 0, ("rooms",), ["rooms"]]:
            for action in (lambda: house.put(shelf, 1, [1, 2, 3, 4]), lambda: house.put(shelf, "no", "no"),
                           lambda: house.take(shelf, 5), lambda: house.take(shelf, "no")):
                refusal = self.refused(NoShelf, action, house)
                self.assertIs(refusal.name, shelf)
                self.assertIsInstance(refusal, LookupError)
        for key in odd_things() + ["", "5", -1, 65536, 10 ** 59, (5,)]:
            self.refused(NoInput, lambda: house.put("rooms", key, [1, 2, 3, 4]), house, part="shelves")
            self.refused(NoInput, lambda: house.take("rooms", key), house, part="shelves")
        for room in odd_things() + ["", 0, (1, 2, 3, 4), [1, 2, 3], [1, 2, 3, 4, 5], [1, 2, 3, 65536], [1, 2, 3, True], [1, 2, 3, -1]]:
            self.refused(NoInput, lambda: house.put("rooms", 5, room), house, part="shelves")
        self.refused(NoInput, lambda: house.put("halls", 5, [1, 2, 3, 4]), house, part="shelves")

    def test_rooms_are_copies(self):
        house = House(CONTRACT)
        room = [1, 2, 3, 4]
        house.put("rooms", 5, room)
        room[0] = 77
        self.assertEqual(house.shelves()["rooms"], {5: [1, 2, 3, 4]})
        taken = house.take("rooms", 5)
        house.put("rooms", 5, taken)
        taken[0] = 88
        self.assertEqual(house.shelves()["rooms"], {5: [1, 2, 3, 4]})

    def test_what_was_told_ahead_stays(self):
        house = filled(tick=TICK)
        ahead = house.shelves()
        house.put("rooms", 5, [1, 2, 3, 4])
        house.take("rooms", 0)
        house.call("tick")
        self.assertEqual(ahead, SHELVES)


class CallAll(Checks):
    def setUp(self):
        self.house = filled(tick=TICK, sum=SUM, ask=ASK)

    def test_one_behind_the_other(self):
        told_so = self.house.call_all([("tick", [], []), ("sum", [1, 2], []), ("tick", (), ()), ("ask", [], [1])])
        self.assertEqual(told_so, [(10, 11), (3, 16), (11, 11), (11, 2)])
        self.assertEqual([self.house.count(name) for name in ("ask", "sum", "tick")], [(1, 2), (1, 16), (2, 22)])
        self.assertEqual(self.house.shelves()["rooms"][5][0], 11)
        self.assertEqual(self.house.call_all([]), [])

    def test_a_watcher(self):
        seen = []
        told_so = self.house.call_all([("tick", [], []), ("sum", [1, 2], []), ("tick", [], [])],
                                      watcher=lambda *things: seen.append(things))
        self.assertEqual(seen, [("tick", (10, 11)), ("sum", (3, 16)), ("tick", (11, 11))])
        self.assertEqual(told_so, [told for _, told in seen])

    def test_what_only_tells_tells_as_that_call_left_it(self):
        seen = []

        def watcher(name, told_so):
            house = self.house
            seen.append((house.names(), house.contract(), house.shelves()["rooms"][5][0], house.program("sum"),
                         house.bound("sum"), house.count("tick"), house.count("sum")))

        self.house.call_all([("tick", [], []), ("sum", [1], []), ("tick", [], [])], watcher=watcher)
        same = (["ask", "sum", "tick"], CONTRACT)
        self.assertEqual(seen, [
            (*same, 10, SUM, 100, (1, 11), (0, 0)), (*same, 10, SUM, 100, (1, 11), (1, 10)),
            (*same, 11, SUM, 100, (2, 22), (1, 10))])

    def test_no_list_ahead_of_all(self):
        wrong = no_lists() + ["", 0, (), (("tick", [], []),), [("tick", [], []), 7], [["tick", [], []]], [("tick", [])],
                                [("tick", [], [], [])], [("no", 7, 7), ()], [None], {"tick": 1}]
        for thing in wrong:
            self.refused(NoInput, lambda: self.house.call_all(thing), self.house, part="calls")
            self.refused(NoInput, lambda: self.house.call_all(thing, watcher=7), self.house, part="calls")

    def test_refused_calls(self):
        good = [("tick", [], []), ("ask", [], [])]
        seen = []

        def watcher(name, told_so):
            seen.append(name)

        for call, error, fields in ((("no", [], []), NoName, {"name": "no"}), (([], 7, 7), NoName, {"name": []}),
                                    (("sum", 7, 7), NoInput, {"part": "input"}), (("sum", [65536], []), NoInput, {"part": "input"}),
                                    (("tick", [], 7), NoInput, {"part": "answers"})):
            for calls, many in ((good + [call], 2), ([call] + good, 0), (good[:1] + [call, call], 1)):
                self.refused(error, lambda: self.house.call_all(calls), self.house, **fields)
                seen.clear()
                self.refused(error, lambda: self.house.call_all(calls, watcher=watcher), self.house, **fields)
                self.assertEqual(len(seen), many)
        self.assertEqual(self.house.call("tick"), (10, 11))

    def test_a_watcher_that_raises(self):
        class Odd(Exception):
            pass

        for error in (Odd, KeyError, ValueError, Shut, KeyboardInterrupt, StopIteration):
            for place in range(3):
                seen = []

                def watcher(name, told_so):
                    seen.append(name)
                    if len(seen) > place:
                        raise error("why")

                calls = [("tick", [], []), ("sum", [], []), ("tick", [], [])]
                self.refused(error, lambda: self.house.call_all(calls, watcher=watcher), self.house)
                self.assertEqual(len(seen), place + 1)
                self.assertIsNone(self.house.put("halls", 9, [1, 2]))
                self.assertEqual(self.house.take("halls", 9), [1, 2])
        self.assertEqual(self.house.call("tick"), (10, 11))

    def deeds(self):
        house = self.house
        return [
            lambda: house.let("new", SEVEN), lambda: house.drop("sum"), lambda: house.call("tick"), lambda: house.call_all([]),
            lambda: house.contract_is(BARE), lambda: house.put("rooms", 5, [0] * 4), lambda: house.take("rooms", 5),
            # What would be refused in another way as well.
            lambda: house.let(7, 7), lambda: house.drop(7), lambda: house.call(7, given=7), lambda: house.call_all(7),
            lambda: house.contract_is(7), lambda: house.put(7, 7, 7), lambda: house.take(7, 7),
        ]

    def test_shut_while_a_watcher_is_called(self):
        seen = []

        def watcher(name, told_so):
            ahead = all_told(self.house)
            for deed in self.deeds():
                with self.assertRaises(Shut):
                    deed()
                seen.append(all_told(self.house) == ahead)

        told_so = self.house.call_all([("tick", [], []), ("tick", [], [])], watcher=watcher)
        self.assertEqual((told_so, seen), ([(10, 11), (11, 11)], [True] * 28))
        self.assertEqual(self.house.let("new", SEVEN), 3)

    def test_shut_goes_on_where_the_watcher_lets_it(self):
        for deed in self.deeds():
            self.refused(Shut, lambda: self.house.call_all([("tick", [], [])], watcher=lambda *_: deed()), self.house)
        self.assertEqual(self.house.call("tick"), (10, 11))

    def test_open_behind_it(self):
        self.house.call_all([("tick", [], [])], watcher=lambda name, told_so: None)
        self.assertEqual(self.house.call_all([("tick", [], [])]), [(11, 11)])

    def test_another_house_is_open(self):
        other = filled(tick=TICK)
        self.house.call_all([("tick", [], [])] * 2, watcher=lambda name, told_so: other.call("tick"))
        self.assertEqual(other.count("tick"), (2, 22))

    def test_the_list_is_gone_through_as_it_stood(self):
        given, answers = [1, 2], [1]
        calls = [("sum", given, []), ("sum", given, []), ("ask", [], answers)]
        ahead = copy.deepcopy(calls)

        def watcher(name, told_so):
            calls.clear()
            calls.append(7)
            given.append(9)
            answers.insert(0, 2)

        self.assertEqual(self.house.call_all(calls, watcher=watcher), [(3, 16), (3, 16), (11, 2)])
        calls = copy.deepcopy(ahead)
        self.house.call_all(calls)
        self.assertEqual(calls, ahead)

    def test_what_is_told_is_the_askers_own(self):
        told_so = self.house.call_all([("tick", [], [])])
        told_so.clear()
        self.assertEqual(self.house.call_all([("tick", [], [])]), [(11, 11)])


class ContractIs(Checks):
    def test_the_same(self):
        house = filled(tick=TICK, sum=SUM)
        house.call("tick")
        ahead = all_told(house)
        self.assertEqual(house.contract_is(copy.deepcopy(CONTRACT)), [])
        self.assertEqual(all_told(house), ahead)
        about = (CONTRACT[0][::-1], CONTRACT[1][::-1])
        self.assertEqual(house.contract_is(about), [])
        self.assertEqual(all_told(house)[2:], ahead[2:])
        self.assertEqual(house.contract(), about)

    def test_a_call_left_out(self):
        house = filled(tick=TICK, ask=ASK, sum=SUM, twice=TWICE)
        for name in house.names():
            house.call(name)
        other = with_calls({"ask": None})
        self.assertEqual(house.contract_is(other), ["ask", "twice"])
        self.assertEqual((house.names(), house.contract()), (["sum", "tick"], other))
        self.assertEqual((house.count("sum"), house.count("tick")), ((1, 4), (1, 11)))
        for name in ("ask", "twice"):
            self.refused(NoName, lambda: house.call(name), house)
            self.refused(NoName, lambda: house.count(name), house)
        self.assertEqual(house.call("tick"), (11, 11))

    def test_a_call_turned(self):
        house = filled(ask=rows("call ask; jump under b0 20 3; end; set b0 7; end"), sum=SUM)
        self.assertEqual(house.program("ask"), rows("call ask; go 3; end; set b0 7; end"))
        self.assertEqual((house.call("ask"), house.bound("ask")), ((7, 4), 4))
        # What is looked at is the program as it was handed in, not as it was made faster.
        self.assertEqual(house.contract_is(with_calls({"ask": ((), ("number", 19, 25))})), [])
        self.assertEqual(house.program("ask"), rows("call ask; jump under b0 20 3; end; set b0 7; end"))
        self.assertEqual((house.bound("ask"), house.count("ask")), (4, (1, 4)))
        self.assertEqual((house.call("ask", answers=[1]), house.call("ask")), ((20, 3), (7, 4)))
        self.assertEqual(house.contract_is(with_calls({"ask": ((), ("number", 20, 25))})), [])
        self.assertEqual(house.program("ask"), rows("call ask; go 2; end; end; end"))
        self.assertEqual((house.bound("ask"), house.count("ask")), (3, (3, 11)))
        self.assertEqual(house.contract_is(with_calls({"ask": ((("number", 1, 1),), ("number", 20, 25))})), ["ask"])

    def test_a_call_put_in(self):
        house = filled(sum=SUM, ask=ASK)
        house.call("ask")
        more = with_calls({"new": ((), ("number", 1, 1))})
        self.assertEqual(house.contract_is(more), [])
        self.assertEqual(house.let("new", rows("call new; end")), 2)
        self.assertEqual(house.call("new"), (1, 2))
        self.assertEqual(house.count("ask"), (1, 2))
        self.assertEqual(house.contract_is(CONTRACT), ["new"])

    def test_just_those_that_call_it_are_looked_at_anew(self):
        house = filled(sum=SUM, ask=ASK, tick=TICK, twice=TWICE)
        for contract, looked_at in ((with_calls({"ask": ((), ("number", 1, 2))}), [ASK, TWICE]),
                                    (with_calls({"ask": ((), ("number", 1, 2)), "tell": None}), []),
                                    (with_calls({"back": ((("room", "rooms"),), ("number", 0, 1))}), [ASK, TWICE, TICK]),
                                    (([("rooms", 4), ("halls", 2), ("more", 1)], CONTRACT[1]), [])):
            with mock.patch.object(module, "told", side_effect=told) as spy:
                house.contract_is(contract)
            self.assertCountEqual([call.args[0] for call in spy.call_args_list], looked_at)

    def test_those_told_out_go_sorted(self):
        house = filled(zz=ASK, aa=TWICE, mm=ASK, sum=SUM)
        self.assertEqual(house.contract_is(BARE), ["aa", "mm", "zz"])
        self.assertEqual((house.names(), house.shelves()), (["sum"], {}))

    def test_too_many_then(self):
        rounds = rows("call ask; jump from b0 30 4; plus b0 1; go 1; end")
        house = House(with_calls({"ask": ((), ("number", 28, 28))}), most=40)
        self.assertEqual(house.let("rounds", rounds), 9)
        self.assertEqual(house.let("two", ASK), 2)
        house.call("two")
        wide = with_calls({"ask": ((), ("number", 2, 2))})
        with self.assertRaises(TooMany):
            told(rounds, wide, most=40)
        self.assertEqual(house.contract_is(wide), ["rounds"])
        self.assertEqual((house.names(), house.contract(), house.count("two")), (["two"], wide, (1, 2)))
        self.assertEqual(house.call("two"), (2, 2))

    def test_shelves_that_come_and_go(self):
        house = filled(sum=SUM, tick=TICK)
        more = ([("rooms", 4), ("halls", 2), ("more", 3)], CONTRACT[1])
        self.assertEqual(house.contract_is(more), [])
        self.assertEqual(house.shelves(), {**SHELVES, "more": {}})
        house.put("more", 1, [1, 2, 3])
        calls = [call for call in CONTRACT[1] if call[0] not in ("hall", "leave")]
        self.assertEqual(house.contract_is(([("rooms", 4)], calls)), [])
        self.assertEqual(house.shelves(), {"rooms": SHELVES["rooms"]})
        self.refused(NoShelf, lambda: house.take("more", 1), house)
        # A shelf that comes again is empty, of whatever size.
        self.assertEqual(house.contract_is(([("rooms", 4), ("halls", 5), ("more", 3)], calls)), [])
        self.assertEqual(house.shelves(), {"rooms": SHELVES["rooms"], "halls": {}, "more": {}})
        self.assertEqual(house.call("tick"), (10, 11))

    def test_a_size_turned_without_rooms(self):
        house = House(CONTRACT)
        first = rows("set b1 5; call find; jump same b0 0 6; load b4 b0 3; move b1 b0; call back; set b0 0; end")
        house.let("tick", TICK)
        house.let("deep", first)
        house.let("sum", SUM)
        house.call("tick")
        self.assertEqual(house.contract_is(([("rooms", 3), ("halls", 2)], CONTRACT[1])), ["deep"])
        self.assertEqual((house.names(), house.count("tick")), (["sum", "tick"], (1, 6)))
        house.put("rooms", 5, [1, 2, 3])
        self.assertEqual(house.call("tick"), (2, 11))

    def test_a_size_turned_with_rooms(self):
        house = filled(tick=TICK)
        for sizes in ((3, 2), (8, 2), (4, 1), (4, 3)):
            contract = ([("rooms", sizes[0]), ("halls", sizes[1])], CONTRACT[1])
            self.refused(NoInput, lambda: house.contract_is(contract), house, part="shelves")
        for key in SHELVES["halls"]:
            house.take("halls", key)
        self.assertEqual(house.contract_is(([("rooms", 4), ("halls", 1)], CONTRACT[1])), [])
        self.refused(NoInput, lambda: house.contract_is(([("rooms", 5), ("halls", 1)], CONTRACT[1])), house, part="shelves")

    def test_no_contract(self):
        house = filled(tick=TICK)
        for thing in odd_things() + ["", 0, ([],), ((), ())]:
            self.refused(NoContract, lambda: house.contract_is(thing), house)
        self.refused(NoContract, lambda: house.contract_is(([("rooms", 9)], [])), house, part="shelves", number=0)
        self.refused(NoContract, lambda: house.contract_is(([("rooms", 5)], [7])), house, part="calls", number=0)

    def test_what_is_handed_in_and_told(self):
        house = filled(ask=ASK)
        contract = with_calls({"ask": None})
        kept = copy.deepcopy(contract)
        gone = house.contract_is(contract)
        self.assertEqual(contract, kept)
        gone.append("other")
        contract[0].clear()
        contract[1].clear()
        self.assertEqual((house.contract(), house.names()), (kept, []))

    def test_drawn(self):
        """Behind a turned contract a house tells what a new one tells that is made by it."""
        source = random.Random(270)
        turns = ({"ask": ((), ("number", 10, 40))}, {"tell": None}, {"find": ((("number", 0, 4),), ("lent", "rooms"))},
                 {"leave": ((("room", "halls"),), ("back",))}, {"tell": ((("number", 0, 9), ("cells", 2)), ("number", 3, 3))},
                 {"hall": None, "leave": None}, {"back": ((("room", "rooms"),), ("number", 0, 0))})
        for _ in range(25):
            programs = {name: tame_program(source, most=30) for name in ("a", "b", "c")}
            house, kept = House(CONTRACT, SHELVES, most=200), {}
            for name, program in programs.items():
                try:
                    house.let(name, program)
                    kept[name] = program
                except (NotLet, TooMany):
                    continue
            contract = with_calls(source.choice(turns))
            gone = house.contract_is(contract)
            other = House(contract, SHELVES, most=200)
            wanted = []
            for name, program in kept.items():
                try:
                    other.let(name, program)
                except (NotLet, TooMany):
                    wanted.append(name)
            self.assertEqual(gone, wanted)
            self.assertEqual(all_told(house), all_told(other))


if __name__ == "__main__":
    unittest.main()
