"""A machine: a run as it stands, with what its boxes and cells have."""

from boundgate.inputs import bare_shelves, copied_shelves, look_at_inputs
from boundgate.programs import BOXES
from boundgate.worths import WIDE, greatest

PILE = 8


class Machine:
    """What a run was handed, and how far it has come."""

    def __init__(self, program, contract, given, shelves, answers):
        look_at_inputs(contract, given, shelves, answers)
        self.rows = list(program)
        self.terms = (list(contract[0]), list(contract[1]))
        self.cells = list(given)
        self.answers = list(answers)
        self.rooms = bare_shelves(contract) if shelves is None else copied_shelves(shelves)
        start = (("pile", 0), ("input", 0), ("number", len(given)))
        self.box_values = start + (None,) * (BOXES - len(start))
        self.pile_values = (None,) * PILE
        self.lent_rooms = {}
        self.askings = 0
        self.answered = 0
        self.at = 0
        self.rows_done = 0
        self.ending = None
        self.written = None


def moment_of(machine):
    """All that a step may turn, but the rooms: nothing in it is ever changed."""
    return (
        machine.box_values, machine.pile_values, machine.lent_rooms, machine.askings, machine.answered,
        machine.at, machine.rows_done, machine.ending,
    )


def set_moment(machine, moment):
    """All is as at that moment, but the rooms."""
    (
        machine.box_values, machine.pile_values, machine.lent_rooms, machine.askings, machine.answered,
        machine.at, machine.rows_done, machine.ending,
    ) = moment


def told_end(machine):
    """How a run ended, with shelves of the asker's own; None while it goes on."""
    if machine.ending is None:
        return None
    word, what = machine.ending
    return (word, what, machine.rows_done, copied_shelves(machine.rooms))


def by_value(machine, by):
    """What the second of a deed, ask or store has."""
    return machine.box_values[by[1]] if by[0] == "box" else ("number", by[1])


def put_box(machine, box, value):
    """A box has a value from now on."""
    ahead = machine.box_values
    machine.box_values = ahead[:box] + (value,) + ahead[box + 1:]


def moved(pointer, many):
    """A pointer so many cells farther in; it goes round."""
    return pointer[:-1] + ((pointer[-1] + many) & greatest(WIDE),)


def room_of(machine, ask):
    """The room that is lent by an asking."""
    shelf, key = machine.lent_rooms[ask]
    return machine.rooms[shelf][key]


def size_of(machine, pointer):
    """How many cells there are where a pointer leads."""
    match pointer[0]:
        case "pile":
            return PILE
        case "input":
            return len(machine.cells)
        case _:
            return len(room_of(machine, pointer[1]))


def cell_value(machine, pointer):
    """What the cell has to which a pointer leads; it isn't outside."""
    place = pointer[-1]
    match pointer[0]:
        case "pile":
            return machine.pile_values[place]
        case "input":
            return ("number", machine.cells[place])
        case _:
            return ("number", room_of(machine, pointer[1])[place])


def put_cell(machine, pointer, value):
    """The cell of the pile, or of a room, to which a pointer leads has a value from now on."""
    place = pointer[-1]
    if pointer[0] == "pile":
        ahead = machine.pile_values
        machine.pile_values = ahead[:place] + (value,) + ahead[place + 1:]
        return
    room = room_of(machine, pointer[1])
    # Rooms are written in place; what stood there is kept, so that the step can be taken back.
    machine.written = machine.lent_rooms[pointer[1]] + (place, room[place])
    room[place] = value[1]


def unwrite(machine, written):
    """A room's cell has again what a step wrote over; None where it wrote none."""
    if written is not None:
        shelf, key, place, worth = written
        machine.rooms[shelf][key][place] = worth
