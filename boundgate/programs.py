"""Programs: lists of rows, tuples; which things are one, and which calls it makes."""

from boundgate.errors import NoProgram
from boundgate.names import is_name
from boundgate.worths import ASKS, DEEDS, is_among, is_whole, is_worth

BOXES = 6

MOST_ROWS = 60

LEAST_OFF = -8

MOST_OFF = 15


def is_box(thing):
    """Whether a thing, of any kind, is a box's number."""
    return is_whole(thing) and 0 <= thing < BOXES


def is_off(thing):
    """Whether a thing, of any kind, tells how far in a cell is reached."""
    return is_whole(thing) and LEAST_OFF <= thing <= MOST_OFF


def is_place(thing, many):
    """Whether a thing, of any kind, is the number of one of so many rows."""
    return is_whole(thing) and 0 <= thing < many


def is_headed(thing):
    """Whether a thing, of any kind, is a tuple with a text ahead."""
    # A thing of another kind may call itself equal to a text, so the kind is looked at first.
    return isinstance(thing, tuple) and len(thing) > 0 and isinstance(thing[0], str)


def is_by(thing):
    """Whether a thing, of any kind, is what a deed or ask takes as its second: a box or a worth."""
    if not is_headed(thing):
        return False
    match thing:
        case ("box", other):
            return is_box(other)
        case ("worth", worth):
            return is_worth(worth)
        case _:
            return False


def is_row(thing, many):
    """Whether a thing, of any kind, is a row of a program of so many rows."""
    if not is_headed(thing):
        return False
    match thing:
        case ("set", box, worth):
            return is_box(box) and is_worth(worth)
        case ("move", box, other):
            return is_box(box) and is_box(other)
        case ("do", word, box, by):
            return is_among(word, DEEDS) and is_box(box) and is_by(by)
        case ("jump", word, box, by, to):
            return is_among(word, ASKS) and is_box(box) and is_by(by) and is_place(to, many)
        case ("go", to):
            return is_place(to, many)
        case ("load", box, other, off):
            return is_box(box) and is_box(other) and is_off(off)
        case ("store", box, off, by):
            return is_box(box) and is_off(off) and is_by(by)
        case ("call", name):
            return is_name(name)
        case _:
            return len(thing) == 1 and thing[0] == "end"


def look_at_program(thing):
    """None of a program; a thing of any other kind is refused."""
    if not isinstance(thing, list) or not 1 <= len(thing) <= MOST_ROWS:
        raise NoProgram(None)
    for number, row in enumerate(thing):
        if not is_row(row, len(thing)):
            raise NoProgram(number)


def calls_of(program):
    """The names that a program calls, sorted, each once."""
    return sorted({row[1] for row in program if row[0] == "call"})
