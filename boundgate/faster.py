"""Programs made faster by a table that is let by: rows of which it is known what they come to are turned."""

from boundgate.errors import NoTable
from boundgate.stepping import comes
from boundgate.tables import lets_table, lies_in


def sure_worth(program, contract, row, box, entries):
    """The worth that a box is known as behind a row, the same in each state; None where there is none."""
    worths = []
    for state, left in entries:
        came = comes(program, contract, row, state)
        # Where nothing comes nothing is known behind it, and a set would come to a state that isn't there.
        if not came:
            return None
        thing = came[0][1][0][box]
        if thing[0] != "number" or thing[1][1] != 0:
            return None
        worths.append(thing[1][0])
    return worths[0] if len(set(worths)) == 1 else None


def sure_row(program, contract, row, table):
    """The row that comes of a jump, the same in each state, which lies there itself; None where there is none."""
    rows = []
    for state, left in table[row]:
        came = comes(program, contract, row, state)
        if len(came) != 1 or not lies_in(table[came[0][0]], state, left):
            return None
        rows.append(came[0][0])
    return rows[0] if len(set(rows)) == 1 else None


def with_set(program, contract, row, box, table):
    """A set in the stead of a row that just sets a box to a worth, else the row."""
    worth = sure_worth(program, contract, row, box, table[row])
    return program[row] if worth is None else ("set", box, worth)


def faster_row(program, contract, row, table):
    """What a row becomes."""
    if not table[row]:
        return ("end",)
    match program[row]:
        case ("do", word, box, by):
            return with_set(program, contract, row, box, table)
        case ("load", box, other, off):
            return with_set(program, contract, row, box, table)
        case ("jump", *jump):
            to = sure_row(program, contract, row, table)
            return program[row] if to is None else ("go", to)
        case _:
            return program[row]


def faster(program, contract, table):
    """The program made faster by a table; a thing of any kind that isn't let by is refused."""
    if not lets_table(program, contract, table):
        raise NoTable("the table isn't let by")
    return [faster_row(program, contract, row, table) for row in range(len(program))]
