"""Texts: programs written as rows of words, and read back."""

from boundgate.errors import NoText
from boundgate.programs import MOST_ROWS, is_row

FIGURES = "0123456789"

LONGEST_NUMBER = 10


def shown_by(by):
    """What a deed or ask takes as its second, written."""
    return f"b{by[1]}" if by[0] == "box" else f"{by[1]}"


def shown_row(row):
    """A row, written."""
    match row:
        case ("set", box, worth):
            return f"set b{box} {worth}"
        case ("move", box, other):
            return f"move b{box} b{other}"
        case ("do", word, box, by):
            return f"{word} b{box} {shown_by(by)}"
        case ("jump", word, box, by, to):
            return f"jump {word} b{box} {shown_by(by)} {to}"
        case ("go", to):
            return f"go {to}"
        case ("load", box, other, off):
            return f"load b{box} b{other} {off}"
        case ("store", box, off, by):
            return f"store b{box} {off} {shown_by(by)}"
        case ("call", name):
            return f"call {name}"
        case _:
            return "end"


def shown(program):
    """A program, written."""
    return "\n".join([shown_row(row) for row in program])


def number_of(word):
    """The whole number that a word writes, None where it writes none."""
    figures = word.removeprefix("-")
    # Longer ones are no number of any row; Python itself refuses to read very long ones.
    if not 1 <= len(figures) <= LONGEST_NUMBER or not all(sign in FIGURES for sign in figures):
        return None
    if figures.startswith("0") and word != "0":
        return None
    return int(word)


def box_of(word):
    """The number of the box that a word writes, None where it writes none."""
    return number_of(word[1:]) if word.startswith("b") else None


def by_of(word):
    """What a word writes as the second of a deed or ask."""
    return ("box", box_of(word)) if word.startswith("b") else ("worth", number_of(word))


def read_row(text):
    """What a text writes: a row, or what is no row."""
    match text.split(" "):
        case ["set", box, worth]:
            return ("set", box_of(box), number_of(worth))
        case ["move", box, other]:
            return ("move", box_of(box), box_of(other))
        case ["jump", word, box, by, to]:
            return ("jump", word, box_of(box), by_of(by), number_of(to))
        case ["go", to]:
            return ("go", number_of(to))
        case ["load", box, other, off]:
            return ("load", box_of(box), box_of(other), number_of(off))
        case ["store", box, off, by]:
            return ("store", box_of(box), number_of(off), by_of(by))
        case ["call", name]:
            return ("call", name)
        case ["end"]:
            return ("end",)
        case [word, box, by]:
            return ("do", word, box_of(box), by_of(by))
        case _:
            return None


def read(text):
    """The program that a text writes."""
    if not isinstance(text, str):
        raise NoText(None)
    rows = [read_row(part) for part in text.split("\n")]
    for number, row in enumerate(rows):
        if not is_row(row, MOST_ROWS):
            raise NoText(number)
    if len(rows) > MOST_ROWS or not all(is_row(row, len(rows)) for row in rows):
        raise NoText(None)
    return rows
