"""Contracts drawn by chance, and programs, inputs, shelves and answers that go with them."""

from tests.drawn import EDGES, drawn_row
from tests.tame import count_part, input_part, numbers_part

HEAD = [("move", 5, 0)] + [("store", 5, place, ("worth", place * 11)) for place in range(6)] + [
    ("store", 5, 7, ("box", 1)), ("store", 5, 6, ("box", 2)),
]


def drawn_name(source):
    return "".join(source.choice("abcxyz") for _ in range(source.choice((1, 2, 8))))


def drawn_ends(source):
    return sorted(source.choice(EDGES + (source.randrange(65536),)) for _ in range(2))


def drawn_take(source, shelves):
    kind = source.choice(("number", "number", "cells", "room"))
    if kind == "room" and shelves:
        return ("room", source.choice(shelves)[0])
    if kind == "cells":
        return ("cells", source.randrange(1, 9))
    return ("number", *drawn_ends(source))


def drawn_call(source, shelves):
    """What a call takes and gives."""
    takes = [drawn_take(source, shelves) for _ in range(source.randrange(4))]
    kind = source.choice(("number", "lent", "lent", "back"))
    if kind == "lent" and shelves:
        return ((("number", *drawn_ends(source)), *takes[1:]), ("lent", source.choice(shelves)[0]))
    if kind == "back" and shelves:
        rest = [take for take in takes[1:] if take[0] != "room"]
        return ((("room", source.choice(shelves)[0]), *rest), ("back",))
    return (tuple(takes), ("number", *drawn_ends(source)))


def drawn_contract(source):
    names = sorted({drawn_name(source) for _ in range(source.randrange(5))})
    shelves = [(name, source.randrange(1, 9)) for name in names]
    calls = {drawn_name(source): drawn_call(source, shelves) for _ in range(source.randrange(13))}
    # Most shelves can be given back to.
    for name, _ in shelves[:3]:
        if len(calls) < 12 and source.random() < 0.8:
            calls["q" + name[:7]] = ((("room", name),), ("back",))
    return (shelves, [(name, *call) for name, call in calls.items()])


def take_row(source, take, box):
    """A row by which a box is as a call takes it; a room stands in box 4."""
    if take[0] == "number":
        return ("set", box, source.choice((take[1], take[2], source.randint(take[1], take[2]))))
    if take[0] == "cells":
        return ("move", box, 5)
    return ("move", box, 4)


def call_part(source, contract, at):
    """A call, and where it lends a room what is done with it till it goes back."""
    name, takes, gives = source.choice(contract[1])
    rows = [take_row(source, take, place + 1) for place, take in enumerate(takes)] + [("call", name)]
    if gives[0] != "lent":
        return rows
    backs = [call for call in contract[1] if call[2] == ("back",) and call[1][0] == ("room", gives[1])]
    inner = [("move", 4, 0), ("store", 4, source.choice((0, 0, 1)), ("worth", 9)), ("load", 3, 4, 0)][:source.randrange(1, 4)]
    for back in backs[:1]:
        inner += [take_row(source, take, place + 1) for place, take in enumerate(back[1])] + [("call", back[0])]
    # Both ways box 3 and box 4 have numbers behind it.
    end = [("set", 3, 1), ("set", 4, 2)]
    jump = ("jump", "same", 0, ("worth", 0), at + len(rows) + 1 + len(inner))
    return rows + [jump] + inner + end


def program_by(source, contract):
    """A program by a contract, mostly one that is told in."""
    rows = HEAD + [("set", 0, 0), ("set", 3, 1), ("set", 4, 2)]
    for _ in range(source.randrange(1, 5)):
        if contract[1] and source.random() < 0.7:
            more = call_part(source, contract, len(rows))
        else:
            more = source.choice((numbers_part, count_part, input_part))(source, len(rows))
        if len(rows) + len(more) < 56:
            rows = rows + more + [("set", 0, source.choice(EDGES)), ("set", 3, 0), ("set", 4, 0)]
            if len(rows) >= 57:
                rows = rows[:-3]
    rows = rows + [("end",)]
    if source.random() < 0.3:
        calls = [call[0] for call in contract[1]] + ["other"]
        rows[source.randrange(len(rows))] = drawn_row(source, len(rows), calls)
    return rows


def drawn_given(source):
    return [source.choice((0, 1, 65535, source.randrange(65536))) for _ in range(source.randrange(17))]


def drawn_answers(source):
    return [source.choice((0, 1, -1, source.randrange(-70000, 70000), 10 ** 40)) for _ in range(source.randrange(5))]


def drawn_shelves(source, contract, program=()):
    """Rooms by keys that a program writes, and others."""
    keys = [row[2] for row in program if row[0] == "set"] + [0, 1, 65535, 7]
    return {
        name: {source.choice(keys): [source.randrange(65536) for _ in range(size)] for _ in range(source.randrange(9))}
        for name, size in contract[0]
    }
