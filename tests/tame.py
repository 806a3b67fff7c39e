"""Programs drawn by chance that mostly are told in: parts of rows, put together so that they fit.

Box 5 has a pointer to the pile all along; the pile's cell 7 has the pointer to the input, cell 6 its length, cell 5
a number. Boxes 0 to 4 are free from part to part.
"""

from boundgate.worths import ASKS, DEEDS
from tests.drawn import EDGES, drawn_row

HEAD = [
    ("move", 5, 0), ("store", 5, 7, ("box", 1)), ("store", 5, 6, ("box", 2)), ("store", 5, 5, ("worth", 3)),
    ("set", 0, 0), ("set", 3, 1), ("set", 4, 2),
]


def numbers_part(source, at):
    """Numbers in boxes, reckoned with."""
    rows = [("set", box, source.choice(EDGES)) for box in (0, 3, 4)]
    for _ in range(source.randrange(1, 5)):
        by = source.choice((("box", source.choice((0, 3, 4))), ("worth", source.choice(EDGES))))
        rows.append(("do", source.choice(DEEDS), source.choice((0, 3, 4)), by))
    return rows


def jump_part(source, at):
    """A jump over some rows, by what a cell of the pile or the length is."""
    by = source.choice((("box", 3), ("worth", source.choice(EDGES))))
    rows = [("load", 0, 5, source.choice((5, 6))), ("set", 3, source.choice(EDGES))]
    jumped = [("do", source.choice(DEEDS), 3, ("box", 0)) for _ in range(source.randrange(3))]
    return rows + [("jump", source.choice(ASKS), 0, by, at + 3 + len(jumped))] + jumped + [("set", 4, 1)]


def input_part(source, at):
    """All cells of the input, one by one, put together in the pile's cell 5."""
    word = source.choice(("plus", "either", "or", "and"))
    return [
        ("load", 1, 5, 7), ("load", 2, 5, 6), ("set", 3, 0), ("jump", "from", 3, ("box", 2), at + 11),
        ("load", 0, 1, 0), ("load", 4, 5, 5), ("do", word, 4, ("box", 0)), ("store", 5, 5, ("box", 4)),
        ("do", "plus", 1, ("worth", 1)), ("do", "plus", 3, ("worth", 1)), ("go", at + 3), ("set", 4, 0),
    ]


def room_part(source, at):
    """A room is asked for, written and given back, where it is there."""
    which, back = source.choice((("find", "back"), ("hall", "leave")))
    first = [("set", 1, source.choice((0, 3, 5, 9))), ("call", which)]
    inner = source.choice((
        [("load", 3, 0, 1), ("do", "plus", 3, ("worth", 1)), ("store", 0, 0, ("box", 3))],
        [("move", 4, 0), ("store", 4, 1, ("worth", 7)), ("set", 4, 0)], [],
    ))
    jump = ("jump", "same", 0, ("worth", 0), at + 6 + len(inner))
    return first + [jump] + inner + [("move", 1, 0), ("set", 2, 2), ("call", back), ("set", 3, 0), ("set", 4, 1)]


def tell_part(source, at):
    """The house is asked for a number, by which a cell of the pile is written and read."""
    off = source.choice((0, 1, 5))
    rows = [("store", 5, place, ("worth", place)) for place in range(5)]
    rows += [("set", 1, source.choice((0, 255))), ("move", 2, 5), ("call", "tell"), ("do", "and", 0, ("worth", 3))]
    rows += [("move", 4, 5), ("do", "plus", 4, ("box", 0)), ("store", 4, 0, ("box", 0)), ("load", 3, 4, 1)]
    return rows + [("do", "minus", 4, ("box", 0)), ("load", 3, 5, 1), ("set", 4, off)]


def count_part(source, at):
    """A round that goes on some times."""
    step, times = source.choice((1, 2, 3)), source.randrange(1, 9)
    return [
        ("set", 3, 0), ("do", "plus", 3, ("worth", step)), ("do", "either", 0, ("box", 3)),
        ("jump", "under", 3, ("worth", step * times), at + 1), ("set", 4, 5),
    ]


PARTS = (numbers_part, jump_part, input_part, room_part, tell_part, count_part)


def tame_program(source, parts=PARTS, most=55):
    """A program that is mostly told in, by the contract of tests.plain."""
    rows = list(HEAD)
    for _ in range(source.randrange(1, 6)):
        more = source.choice(parts)(source, len(rows))
        if len(rows) + len(more) <= most:
            rows += more + [("set", 0, source.choice(EDGES))]
    return rows + [("end",)]


def spoiled_program(source, calls):
    """A tame program one row of which is another one."""
    rows = tame_program(source)
    rows[source.randrange(len(rows))] = drawn_row(source, len(rows), calls)
    return rows
