"""Doing rows: what each row does to a machine, or the word of its fault."""

from boundgate.contracts import call_of
from boundgate.errors import NoCall
from boundgate.machine import by_value, cell_value, moved, put_box, put_cell, size_of
from boundgate.worths import asked, done


def do_move(machine, box, other):
    """A box becomes what another one has."""
    value = machine.box_values[other]
    if value is None:
        return "unset"
    put_box(machine, box, value)
    return None


def deed_value(word, one, other):
    """What comes of two values by a deed, None where they are of wrong kinds."""
    if other[0] != "number":
        return None
    if one[0] == "number":
        return ("number", done(word, one[1], other[1]))
    if word == "plus":
        return moved(one, other[1])
    if word == "minus":
        return moved(one, -other[1])
    return None


def do_deed(machine, word, box, by):
    """A box becomes what comes of it and by."""
    one, other = machine.box_values[box], by_value(machine, by)
    if one is None or other is None:
        return "unset"
    value = deed_value(word, one, other)
    if value is None:
        return "kind"
    put_box(machine, box, value)
    return None


def ask_answer(word, one, other):
    """How an ask of two values is answered, None where they are of wrong kinds."""
    if other[0] != "number":
        return None
    if one[0] == "number":
        return asked(word, one[1], other[1])
    # A pointer is just asked whether it is there, and it is.
    if other[1] == 0 and word in ("same", "unlike"):
        return word == "unlike"
    return None


def do_jump(machine, word, box, by, to):
    """Another row comes next where the ask is answered yes."""
    one, other = machine.box_values[box], by_value(machine, by)
    if one is None or other is None:
        return "unset"
    answer = ask_answer(word, one, other)
    if answer is None:
        return "kind"
    if answer:
        machine.at = to
    return None


def do_load(machine, box, other, off):
    """A box becomes what a cell has."""
    pointer = machine.box_values[other]
    if pointer is None:
        return "unset"
    if pointer[0] == "number":
        return "kind"
    cell = moved(pointer, off)
    if cell[-1] >= size_of(machine, cell):
        return "outside"
    value = cell_value(machine, cell)
    if value is None:
        return "unset"
    put_box(machine, box, value)
    return None


def do_store(machine, box, off, by):
    """A cell becomes what by is."""
    pointer, value = machine.box_values[box], by_value(machine, by)
    if pointer is None or value is None:
        return "unset"
    if pointer[0] == "number":
        return "kind"
    cell = moved(pointer, off)
    if cell[-1] >= size_of(machine, cell):
        return "outside"
    if cell[0] == "input":
        return "write"
    if cell[0] == "room" and value[0] != "number":
        return "out"
    put_cell(machine, cell, value)
    return None


def has_numbers(machine, value, many):
    """Whether a value is a pointer from which on so many cells have numbers."""
    if value[0] == "number" or value[-1] + many > size_of(machine, value):
        return False
    cells = [cell_value(machine, moved(value, step)) for step in range(many)]
    return all(cell is not None and cell[0] == "number" for cell in cells)


def is_good_take(machine, take, value):
    """Whether a value is as a call takes it."""
    match take:
        case ("number", least, most):
            return value[0] == "number" and least <= value[1] <= most
        case ("cells", many):
            return has_numbers(machine, value, many)
        case _:
            return value[0] == "room" and value[2] == 0 and machine.lent_rooms[value[1]][0] == take[1]


def next_answer(machine):
    """The next answer of the house, over and over; 0 where there are none."""
    machine.answered += 1
    if not machine.answers:
        return 0
    return machine.answers[(machine.answered - 1) % len(machine.answers)]


def lent_value(machine, shelf, key):
    """What an asking for a room gives: a pointer to it, or the number 0."""
    ask = machine.askings
    machine.askings += 1
    if key not in machine.rooms[shelf]:
        return ("number", 0)
    machine.lent_rooms = {**machine.lent_rooms, ask: (shelf, key)}
    return ("room", ask, 0)


def forget_asking(machine, ask):
    """A room goes back: no pointer of that asking is left."""
    lent = machine.lent_rooms
    machine.lent_rooms = {other: lent[other] for other in lent if other != ask}
    machine.box_values = without_asking(machine.box_values, ask)
    machine.pile_values = without_asking(machine.pile_values, ask)


def without_asking(values, ask):
    """Values, unset where one is a pointer of that asking."""
    return tuple([None if value is not None and value[:2] == ("room", ask) else value for value in values])


def given_value(machine, gives):
    """What a call gives, by what box 1 has."""
    match gives:
        case ("number", least, most):
            return ("number", least + next_answer(machine) % (most - least + 1))
        case ("lent", shelf):
            return lent_value(machine, shelf, machine.box_values[1][1])
        case _:
            forget_asking(machine, machine.box_values[1][1])
            return ("number", 0)


def do_call(machine, name):
    """The house is called."""
    try:
        takes, gives = call_of(machine.terms, name)
    except NoCall:
        return "call"
    for place, take in enumerate(takes):
        value = machine.box_values[place + 1]
        if value is None:
            return "unset"
        if not is_good_take(machine, take, value):
            return "call"
    value = given_value(machine, gives)
    machine.box_values = (value, None, None, None) + machine.box_values[4:]
    return None


def do_end(machine):
    """The run is at its end."""
    value = machine.box_values[0]
    if value is None:
        return "unset"
    if value[0] != "number":
        return "out"
    if machine.lent_rooms:
        return "kept"
    machine.ending = ("end", value[1])
    return None


def do_row(machine, row):
    """Does a row; told is the word of its fault, or None."""
    match row:
        case ("set", box, worth):
            put_box(machine, box, ("number", worth))
            return None
        case ("move", box, other):
            return do_move(machine, box, other)
        case ("do", word, box, by):
            return do_deed(machine, word, box, by)
        case ("jump", word, box, by, to):
            return do_jump(machine, word, box, by, to)
        case ("go", to):
            machine.at = to
            return None
        case ("load", box, other, off):
            return do_load(machine, box, other, off)
        case ("store", box, off, by):
            return do_store(machine, box, off, by)
        case ("call", name):
            return do_call(machine, name)
        case _:
            return do_end(machine)


def do_step(machine):
    """Does the step that is due: a row, or the fault that there is none."""
    machine.written = None
    if machine.at == len(machine.rows):
        machine.ending = ("off", None)
        return
    row = machine.rows[machine.at]
    machine.at += 1
    machine.rows_done += 1
    fault = do_row(machine, row)
    if fault is not None:
        machine.ending = (fault, None)
