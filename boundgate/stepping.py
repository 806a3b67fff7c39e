"""Known steps: what comes of a state at a row, or the word of a fault that can't be told not to come.

Of a row but jump, go and end a state comes, or a word, or None where nothing can come.
"""

from boundgate.contracts import call_of
from boundgate.errors import NoCall
from boundgate.known import all_of, just, span
from boundgate.machine import PILE
from boundgate.reckon import known_done, sharpened
from boundgate.states import MOST_ASKS
from boundgate.worths import WIDE, greatest

UNSET = ("unset",)

LENGTH = ("length",)


def any_number():
    """A number of which nothing is known."""
    return ("number", all_of())


def is_number(thing):
    """Whether a thing is known as a number."""
    return thing[0] in ("number", "length")


def is_pointer(thing):
    """Whether a thing is known as a pointer."""
    return thing[0] in ("pile", "input", "room")


def number_known(state, thing):
    """What is known of a number, None of a thing that isn't known as one."""
    if thing == LENGTH:
        return state[3]
    return thing[1] if thing[0] == "number" else None


def by_thing(state, by):
    """What is known of the second of a deed, ask or store."""
    return state[0][by[1]] if by[0] == "box" else ("number", just(by[1]))


def with_box(state, box, thing):
    """A state with another thing in a box."""
    boxes = state[0]
    return (boxes[:box] + (thing,) + boxes[box + 1:],) + state[1:]


def with_known(state, box, known):
    """A state with this known of a box's number, which is perhaps the length."""
    if state[0][box] == LENGTH:
        return state[:3] + (known,)
    return with_box(state, box, ("number", known))


def after_move(state, box, other):
    """Behind a move."""
    thing = state[0][other]
    return "unset" if thing == UNSET else with_box(state, box, thing)


def after_deed(state, word, box, by):
    """Behind a deed."""
    one, other = state[0][box], by_thing(state, by)
    if UNSET in (one, other):
        return "unset"
    first, second = number_known(state, one), number_known(state, other)
    if second is None:
        return "kind"
    head = ("number",)
    if first is None:
        if not is_pointer(one) or word not in ("plus", "minus"):
            return "kind"
        head, first = one[:-1], one[-1]
    known = known_done(word, first, second)
    return None if known is None else with_box(state, box, head + (known,))


def number_jump(state, jump, first, second, after):
    """What comes of a jump by two numbers: what each answer leaves."""
    word, box, by, to = jump
    came = []
    for truth, row in ((False, after), (True, to)):
        both = sharpened(word, first, second, truth=truth)
        if both is not None:
            sharper = with_known(state, box, both[0])
            # Where both stand at one place, what is known of by is what is kept.
            if by[0] == "box":
                sharper = with_known(sharper, by[1], both[1])
            came.append((row, sharper))
    return came


def with_things_turned(state, asks, turn):
    """A state with other asks, and with each box and cell turned."""
    boxes, pile = [turn(thing) for thing in state[0]], [turn(thing) for thing in state[1]]
    return (tuple(boxes), tuple(pile), asks, state[3])


def asks_without(state, ask):
    """The asks but one."""
    return tuple([part for part in state[2] if part[0] != ask])


def with_nothing(state, ask):
    """A state where an asking found nothing."""
    nothing = ("number", just(0))
    return with_things_turned(
        state, asks_without(state, ask), lambda thing: nothing if thing == ("maybe", ask) else thing)


def with_room(state, ask):
    """A state where an asking found a room."""
    room = ("room", ask, just(0))
    asks = [(number, shelf, sure or number == ask) for number, shelf, sure in state[2]]
    return with_things_turned(state, tuple(asks), lambda thing: room if thing == ("maybe", ask) else thing)


def jump_comes(state, jump, after):
    """What comes of a jump, the next row ahead."""
    word, box, by, to = jump
    one, other = state[0][box], by_thing(state, by)
    if UNSET in (one, other):
        return "unset"
    first, second = number_known(state, one), number_known(state, other)
    if first is not None and second is not None:
        return number_jump(state, jump, first, second, after)
    # A pointer, or what may be one, is just asked whether it is there.
    if second != just(0) or word not in ("same", "unlike"):
        return "kind"
    if is_pointer(one):
        return [(after if word == "same" else to, state)]
    there, nothing = with_room(state, one[1]), with_nothing(state, one[1])
    return [(after, there), (to, nothing)] if word == "same" else [(after, nothing), (to, there)]


def shelf_of(state, ask):
    """The shelf of an ask."""
    return [shelf for number, shelf, sure in state[2] if number == ask][0]


def sure_size(state, contract, pointer):
    """How many cells are sure to be where a pointer leads."""
    match pointer[0]:
        case "pile":
            return PILE
        case "input":
            return state[3][2]
        case _:
            return dict(contract[0])[shelf_of(state, pointer[1])]


def reached(pointer, off):
    """What is known of how far in the cell is that a load or store reaches."""
    return known_done("plus", pointer[-1], just(off & greatest(WIDE)))


def read_cells(state, least, most):
    """What is known of what is read from one of these cells of the pile, None where kinds are wrong."""
    cells = state[1][least:most + 1]
    if least == most:
        return cells[0]
    if UNSET in cells:
        return UNSET
    return any_number() if all(is_number(cell) for cell in cells) else None


def after_load(state, contract, box, other, off):
    """Behind a load."""
    pointer = state[0][other]
    if pointer == UNSET:
        return "unset"
    if not is_pointer(pointer):
        return "kind"
    place = reached(pointer, off)
    if place is None:
        return None
    if place[3] >= sure_size(state, contract, pointer):
        return "outside"
    thing = read_cells(state, place[2], place[3]) if pointer[0] == "pile" else any_number()
    if thing is None:
        return "kind"
    return "unset" if thing == UNSET else with_box(state, box, thing)


def written_cells(cells, thing):
    """What is known of cells one of which is written."""
    if len(cells) == 1:
        return (thing,)
    return tuple([any_number() if is_number(cell) else UNSET for cell in cells])


def after_pile_store(state, least, most, thing):
    """Behind a store to one of these cells of the pile."""
    if least != most and not is_number(thing):
        return "kind"
    boxes, pile, asks, length = state
    written = written_cells(pile[least:most + 1], thing)
    return (boxes, pile[:least] + written + pile[most + 1:], asks, length)


def after_store(state, contract, box, off, by):
    """Behind a store."""
    pointer, thing = state[0][box], by_thing(state, by)
    if UNSET in (pointer, thing):
        return "unset"
    if not is_pointer(pointer):
        return "kind"
    place = reached(pointer, off)
    if place is None:
        return None
    if place[3] >= sure_size(state, contract, pointer):
        return "outside"
    match pointer[0]:
        case "input":
            return "write"
        case "room":
            return state if is_number(thing) else "out"
        case _:
            return after_pile_store(state, place[2], place[3], thing)


def are_sure_numbers(state, contract, thing, many):
    """Whether a thing is a pointer from which on so many cells are sure to have numbers."""
    if not is_pointer(thing):
        return False
    least, end = thing[-1][2], thing[-1][3] + many
    if end > sure_size(state, contract, thing):
        return False
    return thing[0] != "pile" or all(is_number(cell) for cell in state[1][least:end])


def is_sure_take(state, contract, take, thing):
    """Whether a thing is sure to be as a call takes it."""
    match take:
        case ("number", least, most):
            known = number_known(state, thing)
            return known is not None and least <= known[2] and known[3] <= most
        case ("cells", many):
            return are_sure_numbers(state, contract, thing, many)
        case _:
            return thing[0] == "room" and thing[2] == just(0) and shelf_of(state, thing[1]) == take[1]


def behind_call(state, given):
    """A state behind a call that gives this."""
    return ((given,) + (UNSET,) * 3 + state[0][4:],) + state[1:]


def after_lending(state, shelf):
    """Behind a call that lends a room, or nothing."""
    taken = [part[0] for part in state[2]]
    free = [ask for ask in range(MOST_ASKS) if ask not in taken]
    if not free:
        return "call"
    asks = tuple(sorted([*state[2], (free[0], shelf, False)]))
    return behind_call((state[0], state[1], asks, state[3]), ("maybe", free[0]))


def after_giving_back(state):
    """Behind a call by which the room in box 1 goes back."""
    ask = state[0][1][1]
    without = with_things_turned(
        state, asks_without(state, ask), lambda thing: UNSET if thing[:2] == ("room", ask) else thing)
    return behind_call(without, ("number", just(0)))


def after_call(state, contract, name):
    """Behind a call."""
    try:
        takes, gives = call_of(contract, name)
    except NoCall:
        return "call"
    for place, take in enumerate(takes):
        thing = state[0][place + 1]
        if thing == UNSET:
            return "unset"
        if not is_sure_take(state, contract, take, thing):
            return "call"
    match gives:
        case ("number", least, most):
            return behind_call(state, ("number", span(least, most)))
        case ("lent", shelf):
            return after_lending(state, shelf)
        case _:
            return after_giving_back(state)


def end_comes(state):
    """What comes of the end: nothing, or a word."""
    thing = state[0][0]
    if thing == UNSET:
        return "unset"
    if not is_number(thing):
        return "out"
    return "kept" if state[2] else []


def after_row(contract, row, state):
    """Behind a row that is no jump, go or end."""
    match row:
        case ("set", box, worth):
            return with_box(state, box, ("number", just(worth)))
        case ("move", box, other):
            return after_move(state, box, other)
        case ("do", word, box, by):
            return after_deed(state, word, box, by)
        case ("load", box, other, off):
            return after_load(state, contract, box, other, off)
        case ("store", box, off, by):
            return after_store(state, contract, box, off, by)
        case _:
            return after_call(state, contract, row[1])


def row_comes(contract, row, state, after):
    """What comes of a row, perhaps behind the last one; after is the next row's number."""
    match row:
        case ("jump", *jump):
            return jump_comes(state, jump, after)
        case ("go", to):
            return [(to, state)]
        case ("end",):
            return end_comes(state)
        case _:
            came = after_row(contract, row, state)
    if came is None:
        return []
    return came if isinstance(came, str) else [(after, came)]


def comes(program, contract, row, state):
    """What comes of a state at a row: a list of tuples (row, state), or a fault's word."""
    # Behind the last row none is left to be done.
    if row >= len(program):
        return "off"
    came = row_comes(contract, program[row], state, row + 1)
    if isinstance(came, str):
        return came
    return "off" if any(to == len(program) for to, after in came) else came
