"""Points [1], [2] and [3] over the whole program, by drawn programs, contracts, inputs, shelves and answers."""

import copy
import importlib
import inspect
import pathlib
import random
import re
import unittest

from boundgate.bits import bit_pair, bits_done, has_worth
from boundgate.contracts import look_at_contract, turned_calls
from boundgate.errors import NoTable, NotLet, TooMany
from boundgate.faster import faster
from boundgate.faults import faulting, is_faulting
from boundgate.gate import told
from boundgate.house import House
from boundgate.programs import calls_of, look_at_program
from boundgate.runner import Runner, run
from boundgate.states import first_state, state_holds, state_within
from boundgate.stepping import comes
from boundgate.tables import bound_of, lets_table
from boundgate.texts import read, shown
from boundgate.worths import done
from tests.drawn_contracts import drawn_answers, drawn_contract, drawn_given, drawn_shelves, program_by
from tests.exchanged import exchanged_answer, exchanged_program, exchanged_state

# Each name of the interface with its arguments as DOC.md writes them; a class with its methods.
INTERFACE = {
    "worths": {
        "is_whole": "thing", "is_worth": "thing, *, wide=16", "signed": "worth, *, wide=16",
        "done": "word, one, other, *, wide=16", "asked": "word, one, other, *, wide=16", "contrary": "word",
    },
    "bits": {
        "is_bits": "thing, *, wide=16", "has_worth": "bits, worth", "bits_within": "one, other", "both_bits": "one, other",
        "met_bits": "one, other", "bits_done": "word, one, other, *, wide=16", "bit_pair": "word, one, other, bit, *, wide=16",
    },
    "known": {
        "is_known": "thing, *, wide=16", "holds": "known, worth, *, wide=16", "lies_within": "one, other",
        "settled": "known, *, wide=16", "all_of": "*, wide=16", "just": "worth, *, wide=16", "span": "least, most, *, wide=16",
    },
    "reckon": {
        "known_done": "word, one, other, *, wide=16", "sharpened": "word, one, other, *, truth=True, wide=16",
    },
    "programs": {"look_at_program": "thing", "calls_of": "program"},
    "texts": {"shown": "program", "read": "text"},
    "contracts": {"look_at_contract": "thing", "call_of": "contract, name", "turned_calls": "one, other"},
    "runner": {
        "run": "program, contract, *, given=(), shelves=None, answers=(), most=1000",
        "Runner": "program, contract, *, given=(), shelves=None, answers=()",
        "Runner.step": "self", "Runner.row": "self", "Runner.boxes": "self", "Runner.pile": "self", "Runner.steps": "self",
        "Runner.lent": "self", "Runner.given": "self", "Runner.told": "self", "Runner.back": "self", "Runner.twin": "self",
        "Runner.__len__": "self",
    },
    "states": {
        "is_state": "contract, thing", "state_within": "one, other", "state_holds": "state, runner", "first_state": "",
    },
    "stepping": {"comes": "program, contract, row, state"},
    "tables": {"lets_table": "program, contract, thing", "bound_of": "table"},
    "gate": {"told": "program, contract, *, most=2000"},
    "faults": {
        "faulting": "program, contract, *, tries=64, most=1000", "is_faulting": "program, contract, thing, *, most=1000",
    },
    "faster": {"faster": "program, contract, table"},
    "house": {
        "House": "contract, shelves=None, *, most=2000", "House.let": "self, name, program", "House.drop": "self, name",
        "House.call": "self, name, *, given=(), answers=()", "House.call_all": "self, calls, *, watcher=None",
        "House.contract_is": "self, contract", "House.names": "self", "House.contract": "self", "House.shelves": "self",
        "House.program": "self, name", "House.bound": "self, name", "House.count": "self, name",
        "House.put": "self, shelf, key, room", "House.take": "self, shelf, key",
    },
    "desk": {"Desk": "", "Desk.say": "self, row"},
}
CONSTANTS = {
    ("worths", "WIDE"): 16, ("runner", "MOST_STEPS"): 1000, ("gate", "MOST_STATES"): 2000,
    ("worths", "DEEDS"): ("plus", "minus", "times", "and", "or", "either", "left", "right"),
}
PACKAGE = pathlib.Path(__file__).resolve().parent.parent / "boundgate"


class Interface(unittest.TestCase):
    def test_each_name_with_its_arguments(self):
        for stem, names in INTERFACE.items():
            module = importlib.import_module(f"boundgate.{stem}")
            for name, arguments in names.items():
                owner, _, method = name.partition(".")
                thing = vars(getattr(module, owner))[method] if method else getattr(module, owner)
                self.assertEqual(str(inspect.signature(thing)), f"({arguments})", (stem, name))

    def test_each_is_defined_in_its_file(self):
        for stem, names in INTERFACE.items():
            text = (PACKAGE / f"{stem}.py").read_text()
            for name in names:
                owner, _, method = name.partition(".")
                if method:
                    self.assertRegex(text, rf"(?m)^    def {method}\(")
                else:
                    self.assertRegex(text, rf"(?m)^(def|class) {owner}\b")

    def test_constants(self):
        for (stem, name), worth in CONSTANTS.items():
            self.assertEqual(getattr(importlib.import_module(f"boundgate.{stem}"), name), worth)

    def test_nothing_hangs_on_a_clock_chance_or_files(self):
        for path in PACKAGE.glob("*.py"):
            for line in re.findall(r"(?m)^(?:from|import) .*$", path.read_text()):
                self.assertRegex(line, r"^from boundgate\.", path)


class Case:
    """A drawn contract and program with what is told of them, or "many"."""

    def __init__(self, source, most=250):
        self.contract = drawn_contract(source)
        self.program = program_by(source, self.contract)
        assert look_at_contract(self.contract) is None and look_at_program(self.program) is None
        self.told = told_or_many(self.program, self.contract, most)

    def inputs(self, source):
        return {
            "given": drawn_given(source), "answers": drawn_answers(source),
            "shelves": drawn_shelves(source, self.contract, self.program),
        }


def told_or_many(program, contract, most):
    try:
        return told(program, contract, most=most)
    except TooMany as refusal:
        assert refusal.size == most
        return "many"


class Promises(unittest.TestCase):
    def test_a_and_b_no_run_faults_and_each_is_held_row_by_row(self):
        source = random.Random(31)
        seen = lent = 0
        for _ in range(400):
            case = Case(source)
            if case.told[0] != "in":
                continue
            table = case.told[1]
            self.assertTrue(lets_table(case.program, case.contract, table))
            seen += 1
            for _ in range(4):
                runner = Runner(case.program, case.contract, **case.inputs(source))
                lefts = []
                while runner.told() is None:
                    lent += len(runner.lent()) > 0
                    held = [left for state, left in table[runner.row()] if state_holds(state, runner)]
                    self.assertTrue(held, (case.program, case.contract, runner.row()))
                    lefts.append(min(held))
                    runner.step()
                self.assertEqual(runner.told()[0], "end")
                self.assertLessEqual(runner.steps(), bound_of(table))
                # Each state that holds it tells of enough rows.
                for steps, left in enumerate(lefts):
                    self.assertLessEqual(runner.steps() - steps, left)
        self.assertGreater(seen, 100)
        self.assertGreater(lent, 100)

    def test_a_of_tables_that_others_wrote(self):
        source = random.Random(32)
        let_by = 0
        for _ in range(250):
            case = Case(source, 120)
            if case.told[0] != "in":
                continue
            table = copy.deepcopy(case.told[1])
            row = source.choice([number for number, entries in enumerate(table) if entries])
            place = source.randrange(len(table[row]))
            state, left = table[row][place]
            boxes = list(state[0])
            boxes[source.randrange(6)] = ("unset",)
            table[row][place] = ((tuple(boxes),) + state[1:], left + source.choice((0, 0, 1)))
            if lets_table(case.program, case.contract, table):
                let_by += 1
                for _ in range(3):
                    ended = run(case.program, case.contract, most=bound_of(table), **case.inputs(source))
                    self.assertEqual(ended[0], "end")
                made = faster(case.program, case.contract, table)
                self.assertTrue(lets_table(made, case.contract, table))
            else:
                with self.assertRaises(NoTable):
                    faster(case.program, case.contract, table)
        self.assertGreater(let_by, 10)

    def test_c_no_sure_bits_are_sharper(self):
        source = random.Random(33)
        for _ in range(300):
            wide = source.choice((1, 8, 16, 32))
            pair = []
            for _ in range(2):
                unsure = source.getrandbits(wide)
                pair.append((source.getrandbits(wide) & ~unsure, unsure))
            word = source.choice(("plus", "minus", "and", "or", "either", "left", "right"))
            other = pair[1] if word not in ("left", "right") else source.randrange(wide + 2)
            came = bits_done(word, pair[0], other, wide=wide)
            for bit in range(wide):
                if came[1] >> bit & 1:
                    nought, one = bit_pair(word, pair[0], other, bit, wide=wide)
                    for wanted, both in enumerate((nought, one)):
                        self.assertTrue(has_worth(pair[0], both[0]))
                        self.assertTrue(both[1] == other or has_worth(other, both[1]))
                        self.assertEqual(done(word, *both, wide=wide) >> bit & 1, wanted)

    def test_d_just_one_is_told(self):
        source = random.Random(34)
        kinds = {"in": 0, "out": 0, "m": 0, "found": 0}
        for _ in range(200):
            case = Case(source)
            kinds[case.told[0]] += 1
            if case.told == "many":
                continue
            found = faulting(case.program, case.contract)
            if found is not None:
                kinds["found"] += 1
                self.assertTrue(is_faulting(case.program, case.contract, found))
                given, shelves, answers = found
                runner = Runner(case.program, case.contract, given=given, shelves=shelves, answers=answers)
                while runner.steps() < 1000 and runner.step():
                    self.assertIsNone(runner.told())
                self.assertTrue(runner.told() is None or runner.told()[0] != "end")
            if case.told[0] == "in":
                self.assertIsNone(found)
                continue
            _, word, way = case.told
            self.assertEqual(way[0], (0, first_state()))
            for ahead, after in zip(way, way[1:]):
                self.assertIn(after, comes(case.program, case.contract, *ahead))
            last = comes(case.program, case.contract, *way[-1])
            if word == "over":
                self.assertTrue(any(row == way[-1][0] and state_within(way[-1][1], state) for row, state in way[:-1]))
            else:
                self.assertEqual(last, word)
        for kind, many in kinds.items():
            self.assertGreater(many, 3, kind)

    def test_f_made_faster_tells_the_same(self):
        source = random.Random(35)
        turned = 0
        for _ in range(400):
            case = Case(source)
            if case.told[0] != "in":
                continue
            table = case.told[1]
            made = faster(case.program, case.contract, table)
            self.assertIsNone(look_at_program(made))
            self.assertTrue(lets_table(made, case.contract, table))
            turned += made != case.program
            for _ in range(4):
                inputs = case.inputs(source)
                plain = run(case.program, case.contract, most=bound_of(table), **inputs)
                self.assertEqual(run(made, case.contract, most=bound_of(table), **inputs), plain)
        self.assertGreater(turned, 30)

    def test_g_a_house(self):
        source = random.Random(36)
        calls = gone_ones = 0
        for _ in range(100):
            contract = drawn_contract(source)
            shelves = drawn_shelves(source, contract)
            house, kept = House(contract, shelves, most=200), {}
            for name in ("a", "b", "c", "d"):
                program = program_by(source, contract)
                answer = told_or_many(program, contract, 200)
                if answer[0] == "in":
                    self.assertEqual(house.let(name, program), bound_of(answer[1]))
                    kept[name] = program
                else:
                    with self.assertRaises((NotLet, TooMany)):
                        house.let(name, program)
            self.assertEqual(house.names(), sorted(kept))
            for _ in range(6):
                for name, program in kept.items():
                    given, answers = drawn_given(source), drawn_answers(source)
                    word, what, steps, shelves = run(program, contract, given=given, shelves=shelves, answers=answers)
                    self.assertEqual((word, house.call(name, given=given, answers=answers)), ("end", (what, steps)))
                    self.assertEqual(house.shelves(), shelves)
                    calls += 1
            gone_ones += self.turn(source, house, kept, contract)
        self.assertGreater(calls, 200)
        self.assertGreater(gone_ones, 5)

    def turn(self, source, house, kept, contract):
        """A call of the contract goes, or gives other numbers; told is how many programs go."""
        if not contract[1]:
            return 0
        place = source.randrange(len(contract[1]))
        name, takes, gives = contract[1][place]
        other = [] if gives[0] != "number" or source.random() < 0.5 else [(name, takes, ("number", 0, 65535))]
        after = (contract[0], contract[1][:place] + other + contract[1][place + 1:])
        ahead = {one: (house.program(one), house.bound(one), house.count(one)) for one in kept}
        gone = house.contract_is(after)
        turned = turned_calls(contract, after)
        for one, program in kept.items():
            answer = told_or_many(program, after, 200)
            if not set(calls_of(program)) & set(turned):
                self.assertEqual((house.program(one), house.bound(one), house.count(one)), ahead[one])
            elif answer[0] == "in":
                wanted = (faster(program, after, answer[1]), bound_of(answer[1]), ahead[one][2])
                self.assertEqual((house.program(one), house.bound(one), house.count(one)), wanted)
            else:
                self.assertIn(one, gone)
        self.assertEqual(house.names(), sorted(set(kept) - set(gone)))
        return len(gone)

    def test_h_boxes_4_and_5_exchanged(self):
        source = random.Random(37)
        kinds = set()
        for _ in range(120):
            case = Case(source)
            other = exchanged_program(case.program)
            self.assertEqual(told_or_many(other, case.contract, 250), exchanged_answer(case.told))
            kinds.add(case.told[0])
            inputs = case.inputs(source)
            self.assertEqual(run(other, case.contract, **inputs), run(case.program, case.contract, **inputs))
            self.assertEqual(faulting(other, case.contract), faulting(case.program, case.contract))
            if case.told[0] == "in":
                table = exchanged_answer(case.told)[1]
                self.assertTrue(lets_table(other, case.contract, table))
                made = faster(case.program, case.contract, case.told[1])
                self.assertEqual(faster(other, case.contract, table), exchanged_program(made))
            elif case.told[0] == "out":
                for row, state in case.told[2]:
                    came = comes(case.program, case.contract, row, state)
                    if not isinstance(came, str):
                        came = [(to, exchanged_state(after)) for to, after in came]
                    self.assertEqual(comes(other, case.contract, row, exchanged_state(state)), came)
        self.assertEqual(kinds, {"in", "out", "m"})

    def test_h_written_and_read_back(self):
        source = random.Random(38)
        for _ in range(150):
            contract = drawn_contract(source)
            program = program_by(source, contract)
            back = read(shown(program))
            self.assertEqual(back, program)
            self.assertEqual(shown(back), shown(program))
            self.assertEqual(told_or_many(back, contract, 60), told_or_many(program, contract, 60))


class Alike(unittest.TestCase):
    """Point [2]: what is asked twice alike is told alike, whatever the order of a dict's keys; nothing is changed."""

    def test_asked_twice(self):
        source = random.Random(39)
        for _ in range(40):
            case = Case(source, 120)
            inputs = case.inputs(source)
            kept = copy.deepcopy((case.program, case.contract, inputs))
            for _ in range(2):
                self.assertEqual(told_or_many(case.program, case.contract, 120), case.told)
            self.assertEqual(run(case.program, case.contract, **inputs), run(case.program, case.contract, **inputs))
            self.assertEqual(faulting(case.program, case.contract, tries=20), faulting(case.program, case.contract, tries=20))
            if case.told[0] == "in":
                self.assertEqual(faster(*kept[:2], case.told[1]), faster(case.program, case.contract, case.told[1]))
            self.assertEqual((case.program, case.contract, inputs), kept)

    def test_the_order_of_keys(self):
        source = random.Random(40)
        for _ in range(40):
            case = Case(source, 120)
            inputs = case.inputs(source)
            about = {name: dict(reversed(rooms.items())) for name, rooms in reversed(inputs["shelves"].items())}
            other = {**inputs, "shelves": about}
            self.assertEqual(run(case.program, case.contract, **other), run(case.program, case.contract, **inputs))
            one, two = House(case.contract, inputs["shelves"], most=120), House(case.contract, about, most=120)
            if case.told[0] == "in":
                for house in (one, two):
                    house.let("a", case.program)
                given = {"given": inputs["given"], "answers": inputs["answers"]}
                self.assertEqual(one.call("a", **given), two.call("a", **given))
            self.assertEqual(one.shelves(), two.shelves())


if __name__ == "__main__":
    unittest.main()
