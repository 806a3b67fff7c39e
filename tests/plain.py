"""Runs told a second time, as plainly as may be, to hold against the program's own."""

import copy

from boundgate.worths import asked, done
from tests.drawn import drawn_row

CONTRACT = (
    [("rooms", 4), ("halls", 2)],
    [
        ("find", (("number", 0, 65535),), ("lent", "rooms")),
        ("hall", (("number", 0, 9),), ("lent", "halls")),
        ("back", (("room", "rooms"),), ("back",)),
        ("leave", (("room", "halls"), ("number", 1, 3)), ("back",)),
        ("tell", (("number", 0, 255), ("cells", 2)), ("number", 0, 7)),
        ("look", (("cells", 1), ("cells", 8), ("room", "rooms")), ("number", 5, 5)),
        ("ask", (), ("number", 10, 12)),
    ],
)
CALLS = [call[0] for call in CONTRACT[1]]
SHELVES = {"rooms": {0: [1, 2, 3, 4], 5: [9, 0, 65535, 7], 7: [0, 0, 0, 0]}, "halls": {3: [6, 6], 0: [0, 65535]}}


class Fault(Exception):
    pass


class PlainRun:
    """A run in one dict that is copied whole ahead of each step."""

    def __init__(self, program, contract, given, shelves, answers):
        self.program, self.contract, self.given, self.answers = program, contract, list(given), list(answers)
        boxes = [("pile", 0), ("input", 0), ("number", len(given)), None, None, None]
        self.now = {
            "boxes": boxes, "pile": [None] * 8, "lent": [], "asked": 0, "used": 0, "row": 0, "steps": 0,
            "told": None, "shelves": copy.deepcopy(shelves),
        }

    def step(self):
        """One step; a fault leaves all as it was, but for the row that is done."""
        ahead = copy.deepcopy(self.now)
        try:
            if self.now["row"] == len(self.program):
                raise Fault("off")
            self.now["steps"] += 1
            row = self.program[self.now["row"]]
            self.now["row"] += 1
            getattr(self, "row_" + row[0])(*row[1:])
        except Fault as fault:
            steps = self.now["steps"]
            self.now = ahead
            self.now["steps"] = steps
            self.now["told"] = (str(fault), None)
        if self.now["told"] is not None:
            self.now["row"] = None
        return self.now["told"] is None

    def told(self):
        if self.now["told"] is None:
            return None
        return (*self.now["told"], self.now["steps"], self.now["shelves"])

    def lent(self):
        return [(ask, shelf) for ask, shelf, _ in self.now["lent"]]

    def need(self, truth, word):
        if not truth:
            raise Fault(word)

    def by(self, by):
        return self.now["boxes"][by[1]] if by[0] == "box" else ("number", by[1])

    def area(self, pointer):
        """The cells where a pointer leads."""
        if pointer[0] == "pile":
            return self.now["pile"]
        if pointer[0] == "input":
            return [("number", worth) for worth in self.given]
        for ask, shelf, key in self.now["lent"]:
            if ask == pointer[1]:
                return [("number", worth) for worth in self.now["shelves"][shelf][key]]
        raise AssertionError("a pointer to no room")

    def row_set(self, box, worth):
        self.now["boxes"][box] = ("number", worth)

    def row_move(self, box, other):
        self.need(self.now["boxes"][other] is not None, "unset")
        self.now["boxes"][box] = self.now["boxes"][other]

    def row_do(self, word, box, by):
        one, other = self.now["boxes"][box], self.by(by)
        self.need(one and other, "unset")
        kinds = (one[0] == "number", other[0] == "number")
        if kinds == (True, True):
            self.now["boxes"][box] = ("number", done(word, one[1], other[1]))
            return
        self.need(kinds == (False, True) and word in ("plus", "minus"), "kind")
        self.now["boxes"][box] = (*one[:-1], (one[-1] + (other[1] if word == "plus" else -other[1])) % 65536)

    def row_jump(self, word, box, by, to):
        one, other = self.now["boxes"][box], self.by(by)
        self.need(one and other, "unset")
        if one[0] == "number" and other[0] == "number":
            yes = asked(word, one[1], other[1])
        else:
            self.need(one[0] != "number" and other == ("number", 0) and word in ("same", "unlike"), "kind")
            yes = word == "unlike"
        if yes:
            self.now["row"] = to

    def row_go(self, to):
        self.now["row"] = to

    def row_load(self, box, other, off):
        pointer = self.now["boxes"][other]
        self.need(pointer, "unset")
        self.need(pointer[0] != "number", "kind")
        area, place = self.area(pointer), (pointer[-1] + off) % 65536
        self.need(place < len(area), "outside")
        self.need(area[place], "unset")
        self.now["boxes"][box] = area[place]

    def row_store(self, box, off, by):
        pointer, value = self.now["boxes"][box], self.by(by)
        self.need(pointer and value, "unset")
        self.need(pointer[0] != "number", "kind")
        place = (pointer[-1] + off) % 65536
        self.need(place < len(self.area(pointer)), "outside")
        self.need(pointer[0] != "input", "write")
        if pointer[0] == "pile":
            self.now["pile"][place] = value
            return
        self.need(value[0] == "number", "out")
        for ask, shelf, key in self.now["lent"]:
            if ask == pointer[1]:
                self.now["shelves"][shelf][key][place] = value[1]

    def takes(self, take, value):
        """Whether a take is good."""
        if take[0] == "number":
            return value[0] == "number" and take[1] <= value[1] <= take[2]
        if value[0] == "number":
            return False
        if take[0] == "cells":
            cells = self.area(value)[value[-1]:value[-1] + take[1]]
            return len(cells) == take[1] and all(cell and cell[0] == "number" for cell in cells)
        return value[0] == "room" and value[2] == 0 and (value[1], take[1]) in self.lent()

    def row_call(self, name):
        found = [call for call in self.contract[1] if call[0] == name]
        self.need(found, "call")
        _, takes, gives = found[0]
        boxes = self.now["boxes"]
        for take, value in zip(takes, boxes[1:]):
            self.need(value, "unset")
            self.need(self.takes(take, value), "call")
        first = boxes[1]
        boxes[:4] = [("number", 0), None, None, None]
        if gives[0] == "number":
            answers = self.answers or [0]
            answer = answers[self.now["used"] % len(answers)]
            self.now["used"] += 1
            boxes[0] = ("number", gives[1] + answer % (gives[2] - gives[1] + 1))
        elif gives[0] == "lent":
            ask = self.now["asked"]
            self.now["asked"] += 1
            if first[1] in self.now["shelves"][gives[1]]:
                self.now["lent"].append((ask, gives[1], first[1]))
                boxes[0] = ("room", ask, 0)
        else:
            self.now["lent"] = [lent for lent in self.now["lent"] if lent[0] != first[1]]
            for values in (boxes, self.now["pile"]):
                for place, value in enumerate(values):
                    if value and value[0] == "room" and value[1] == first[1]:
                        values[place] = None

    def row_end(self):
        value = self.now["boxes"][0]
        self.need(value, "unset")
        self.need(value[0] == "number", "out")
        self.need(not self.now["lent"], "kept")
        self.now["told"] = ("end", value[1])


def pointer_row(source, run):
    """A row that does something by a pointer in some box, where there is one."""
    boxes = [place for place, value in enumerate(run.now["boxes"]) if value and value[0] != "number"]
    rooms = [place for place in boxes if run.now["boxes"][place][0] == "room"]
    if not boxes:
        return ("move", 4, 0)
    box = source.choice(rooms or boxes)
    off, by = source.randint(0, 3), source.choice((("worth", 7), ("worth", 65535), ("box", source.randrange(6))))
    return source.choice((
        ("store", box, off, by), ("store", box, off, by), ("load", source.randrange(2, 6), box, off),
        ("move", source.randrange(6), box), ("move", 4, box), ("set", 1, source.choice((0, 5, 3))), ("call", "find"),
        ("call", "hall"), ("call", "back"),
    ))


def long_program(source, contract, given, shelves, answers, many):
    """A drawn program of so many rows that goes on, row by row, by what it is handed here."""
    program = []
    calls = [call[0] for call in contract[1]]
    run = PlainRun(program, contract, given, shelves, answers)
    while len(program) < many:
        for _ in range(60):
            row = drawn_row(source, many, calls) if source.random() < 0.5 else pointer_row(source, run)
            ahead = copy.deepcopy(run.now)
            program.append(row)
            if row[0] not in ("end", "go") and run.step() and run.now["row"] == len(program):
                break
            program.pop()
            run.now = ahead
        else:
            program.append(("set", source.randrange(6), source.choice((0, 1, 3, 5, 7))))
            run.step()
    return program
