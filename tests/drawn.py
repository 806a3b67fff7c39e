"""Programs drawn by chance, the same ones each time."""

from boundgate.worths import ASKS, DEEDS

EDGES = (0, 1, 2, 3, 7, 8, 15, 16, 255, 32767, 32768, 65534, 65535)


def drawn_by(source):
    if source.random() < 0.5:
        return ("box", source.randrange(6))
    return ("worth", source.choice(EDGES + (source.randrange(65536),)))


def drawn_row(source, many, calls):
    """Any row of a program of so many rows, with one of these calls where there are some."""
    kind = source.choice(("set", "move", "do", "do", "jump", "go", "load", "store", "call", "end"))
    if kind == "set":
        return ("set", source.randrange(6), source.choice(EDGES))
    if kind == "move":
        return ("move", source.randrange(6), source.randrange(6))
    if kind == "do":
        return ("do", source.choice(DEEDS), source.randrange(6), drawn_by(source))
    if kind == "jump":
        return ("jump", source.choice(ASKS), source.randrange(6), drawn_by(source), source.randrange(many))
    if kind == "go":
        return ("go", source.randrange(many))
    if kind == "load":
        return ("load", source.randrange(6), source.randrange(6), source.randint(-8, 15))
    if kind == "store":
        return ("store", source.randrange(6), source.randint(-8, 15), drawn_by(source))
    if kind == "call" and calls:
        return ("call", source.choice(calls))
    return ("end",)


def drawn_program(source, calls=("find", "back", "tell"), most=60):
    many = source.choice((1, 2, 5, most, source.randint(1, most)))
    return [drawn_row(source, many, calls) for _ in range(many)]


def box_with(source, state, kinds):
    """A box that has one of these kinds in a state, any one where none has."""
    boxes = [place for place, thing in enumerate(state[0]) if thing[0] in kinds]
    return source.choice(boxes or range(6))


def fitting_row(source, state, many, calls):
    """Any row, mostly one by which something comes of a state."""
    numbers, pointers = ("number", "length"), ("pile", "input", "room")
    if source.random() < 0.25:
        return drawn_row(source, many, calls)
    kind = source.choice(("do", "do", "moved", "jump", "jump", "there", "load", "load", "store", "store", "call"))
    number = source.choice((("box", box_with(source, state, numbers)), ("worth", source.choice(EDGES))))
    off = source.choice((0, 0, 0, 1, 2, -1, source.randint(-8, 15)))
    to = source.randrange(many)
    if kind == "do":
        return ("do", source.choice(DEEDS), box_with(source, state, numbers), number)
    if kind == "moved":
        return ("do", source.choice(("plus", "minus")), box_with(source, state, pointers), number)
    if kind == "jump":
        return ("jump", source.choice(ASKS), box_with(source, state, numbers), number, to)
    if kind == "there":
        box = box_with(source, state, source.choice((("maybe",), pointers)))
        return ("jump", source.choice(("same", "unlike")), box, ("worth", 0), to)
    if kind == "load":
        return ("load", source.randrange(6), box_with(source, state, pointers), off)
    if kind == "store":
        by = source.choice((number, ("box", source.randrange(6))))
        return ("store", box_with(source, state, source.choice((pointers, ("pile", "room")))), off, by)
    return ("call", source.choice(calls))
