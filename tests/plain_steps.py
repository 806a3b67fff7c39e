"""Known steps and walks told a second time, as plainly as may be, to hold against the program's own."""

import sys

from boundgate.known import all_of, just, span
from boundgate.reckon import known_done, sharpened
from boundgate.states import first_state, state_within

UNSET = ("unset",)
LENGTH = ("length",)
ALL = ("number", all_of())
NOUGHT = ("number", just(0))


class Word(Exception):
    pass


class Nothing(Exception):
    pass


def need(truth, word):
    if not truth:
        raise Word(word)


class PlainStep:
    """A state in lists and dicts that are turned about."""

    def __init__(self, contract, state):
        boxes, pile, asks, length = state
        self.contract, self.boxes, self.pile, self.length = contract, list(boxes), list(pile), length
        self.asks = {ask: [shelf, sure] for ask, shelf, sure in asks}
        self.to = None

    def state(self):
        asks = tuple((ask, *self.asks[ask]) for ask in sorted(self.asks))
        return (tuple(self.boxes), tuple(self.pile), asks, self.length)

    def by(self, by):
        return self.boxes[by[1]] if by[0] == "box" else ("number", just(by[1]))

    def read(self, *things):
        """What is known of things that are read; a length stays as it is."""
        need(UNSET not in things, "unset")
        return things

    def number(self, thing):
        return self.length if thing == LENGTH else thing[1]

    def is_number(self, thing):
        return thing[0] in ("number", "length")

    def size(self, pointer):
        if pointer[0] == "room":
            return dict(self.contract[0])[self.asks[pointer[1]][0]]
        return 8 if pointer[0] == "pile" else self.length[2]

    def row_set(self, box, worth):
        self.boxes[box] = ("number", just(worth))

    def row_move(self, box, other):
        self.boxes[box], = self.read(self.boxes[other])

    def row_do(self, word, box, by):
        one, other = self.read(self.boxes[box], self.by(by))
        need(self.is_number(other), "kind")
        if self.is_number(one):
            came = ("number", known_done(word, self.number(one), self.number(other)))
        else:
            need(one[0] != "maybe" and word in ("plus", "minus"), "kind")
            came = (*one[:-1], known_done(word, one[-1], self.number(other)))
        if came[-1] is None:
            raise Nothing
        self.boxes[box] = came

    def row_load(self, box, other, off):
        pointer, = self.read(self.boxes[other])
        least, most = self.cells(pointer, off)
        if pointer[0] != "pile":
            self.boxes[box] = ALL
            return
        cells = self.pile[least:most + 1]
        need(UNSET not in cells, "unset")
        if len(cells) > 1:
            need(all(self.is_number(cell) for cell in cells), "kind")
            cells = [ALL]
        self.boxes[box] = cells[0]

    def cells(self, pointer, off):
        need(pointer[0] in ("pile", "input", "room"), "kind")
        known = known_done("plus", pointer[-1], just(off % 65536))
        if known is None:
            raise Nothing
        need(known[3] < self.size(pointer), "outside")
        return known[2], known[3]

    def row_store(self, box, off, by):
        pointer, thing = self.read(self.boxes[box], self.by(by))
        least, most = self.cells(pointer, off)
        need(pointer[0] != "input", "write")
        if pointer[0] == "room":
            need(self.is_number(thing), "out")
            return
        need(least == most or self.is_number(thing), "kind")
        for place in range(least, most + 1):
            if least == most:
                self.pile[place] = thing
            else:
                self.pile[place] = ALL if self.is_number(self.pile[place]) else UNSET

    def takes(self, take, thing):
        if take[0] == "number":
            return self.is_number(thing) and take[1] <= self.number(thing)[2] <= self.number(thing)[3] <= take[2]
        if take[0] == "room":
            return thing[0] == "room" and self.asks[thing[1]] == [take[1], True] and thing[2] == just(0)
        if self.is_number(thing) or thing[0] == "maybe" or thing[-1][3] + take[1] > self.size(thing):
            return False
        cells = range(thing[-1][2], thing[-1][3] + take[1])
        return thing[0] != "pile" or all(self.is_number(self.pile[cell]) for cell in cells)

    def row_call(self, name):
        found = [call[1:] for call in self.contract[1] if call[0] == name]
        need(found, "call")
        takes, gives = found[0]
        for take, thing in zip(takes, self.boxes[1:]):
            self.read(thing)
            need(self.takes(take, thing), "call")
        given = NOUGHT
        if gives[0] == "number":
            given = ("number", span(*gives[1:]))
        elif gives[0] == "lent":
            free = [ask for ask in range(4) if ask not in self.asks]
            need(free, "call")
            self.asks[free[0]] = [gives[1], False]
            given = ("maybe", free[0])
        else:
            gone = self.boxes[1][1]
            del self.asks[gone]
            self.exchange(lambda thing: UNSET if thing[0] == "room" and thing[1] == gone else thing)
        self.boxes[:4] = [given, UNSET, UNSET, UNSET]

    def exchange(self, turn):
        self.boxes = [turn(thing) for thing in self.boxes]
        self.pile = [turn(thing) for thing in self.pile]


def plain_jump(contract, state, word, box, by, to, after):
    step = PlainStep(contract, state)
    one, other = step.read(step.boxes[box], step.by(by))
    need(step.is_number(other), "kind")
    if step.is_number(one):
        came = []
        for truth in (False, True):
            both = sharpened(word, step.number(one), step.number(other), truth=truth)
            if both is not None:
                came.append((to if truth else after, sharper_state(contract, state, box, by, both)))
        return came
    need(word in ("same", "unlike") and step.number(other) == just(0), "kind")
    if one[0] != "maybe":
        return [(after, state) if word == "same" else (to, state)]
    nothing, there = PlainStep(contract, state), PlainStep(contract, state)
    del nothing.asks[one[1]]
    nothing.exchange(lambda thing: NOUGHT if thing == one else thing)
    there.asks[one[1]][1] = True
    there.exchange(lambda thing: ("room", one[1], just(0)) if thing == one else thing)
    both = [there, nothing] if word == "same" else [nothing, there]
    return [(after, both[0].state()), (to, both[1].state())]


def sharper_state(contract, state, box, by, both):
    step = PlainStep(contract, state)
    places = [box] + ([by[1]] if by[0] == "box" else [])
    for place, known in zip(places, both):
        if step.boxes[place] == LENGTH:
            step.length = known
        else:
            step.boxes[place] = ("number", known)
    return step.state()


def plain_rows(program, contract, row, state):
    kind, *parts = program[row]
    if kind == "jump":
        return plain_jump(contract, state, *parts, row + 1)
    if kind == "go":
        return [(parts[0], state)]
    if kind == "end":
        boxes, _, asks, _ = state
        need(boxes[0] != UNSET, "unset")
        need(boxes[0][0] in ("number", "length"), "out")
        need(not asks, "kept")
        return []
    step = PlainStep(contract, state)
    getattr(step, "row_" + kind)(*parts)
    return [(row + 1, step.state())]


def plain_comes(program, contract, row, state):
    """Point [20] told a second time."""
    try:
        came = plain_rows(program, contract, row, state)
        need(all(to < len(program) for to, _ in came), "off")
        return came
    except Word as word:
        return str(word)
    except Nothing:
        return []


class PlainWalk:
    """Point [23] told a second time: a walk that calls itself."""

    def __init__(self, program, contract, most):
        self.program, self.contract, self.most = program, contract, most
        self.table = [[] for _ in program]
        self.left_out = 0
        self.many = 0

    def told(self):
        """What told tells, or "many" in the stead of TooMany."""
        before = sys.getrecursionlimit()
        sys.setrecursionlimit(20000)
        try:
            self.walk(0, first_state(), [])
        except Word as word:
            return word.args[0]
        finally:
            sys.setrecursionlimit(before)
        return ("in", [[tuple(entry) for entry in entries] for entries in self.table])

    def walk(self, row, state, way):
        """The left of a state, or of the one in which it lies."""
        way = way + [(row, state)]
        for other, left in self.table[row]:
            if left is not None and state_within(state, other):
                self.left_out += 1
                return left
        need(not any(state_within(state, other) for other, _ in self.table[row]), ("out", "over", way))
        need(self.many < self.most, "many")
        self.many += 1
        entry = [state, None]
        self.table[row].append(entry)
        came = plain_comes(self.program, self.contract, row, state)
        need(not isinstance(came, str), ("out", came, way))
        entry[1] = 1 + max([self.walk(to, after, way) for to, after in came], default=0)
        return entry[1]
