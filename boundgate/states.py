"""States: what is known of every box and cell as a run comes to a row."""

from boundgate.inputs import MOST_CELLS
from boundgate.known import holds, is_known, just, lies_within, settled, span
from boundgate.machine import PILE
from boundgate.programs import BOXES, is_headed
from boundgate.worths import is_among, is_whole

MOST_ASKS = 4


def is_settled(thing):
    """Whether a thing, of any kind, is a known number that is settled."""
    return is_known(thing) and settled(thing) == thing


def is_ask(thing, names):
    """Whether a thing, of any kind, is a tuple (ask, shelf, sure) with one of these shelves."""
    if not isinstance(thing, tuple) or len(thing) != 3:
        return False
    ask, shelf, sure = thing
    return is_whole(ask) and 0 <= ask < MOST_ASKS and is_among(shelf, names) and isinstance(sure, bool)


def are_asks(thing, names):
    """Whether a thing, of any kind, is a tuple of asks, rising."""
    if not isinstance(thing, tuple) or not all(is_ask(part, names) for part in thing):
        return False
    numbers = [part[0] for part in thing]
    return numbers == sorted(set(numbers))


def is_thing(thing, sures):
    """Whether a thing, of any kind, is what may be known of a box or cell; sures: which asks are sure."""
    if not is_headed(thing):
        return False
    match thing:
        case ("unset",) | ("length",):
            return True
        case ("number", known):
            return is_settled(known)
        case ("pile", known):
            return is_settled(known)
        case ("input", known):
            return is_settled(known)
        case ("room", ask, known):
            return is_whole(ask) and sures.get(ask) is True and is_settled(known)
        case ("maybe", ask):
            return is_whole(ask) and sures.get(ask) is False
        case _:
            return False


def are_things(thing, many, sures):
    """Whether a thing, of any kind, is a tuple of what is known of so many boxes or cells."""
    return isinstance(thing, tuple) and len(thing) == many and all(is_thing(part, sures) for part in thing)


def is_state(contract, thing):
    """Whether a thing, of any kind, is a state by a contract."""
    if not isinstance(thing, tuple) or len(thing) != 4:
        return False
    boxes, pile, asks, length = thing
    if not are_asks(asks, [shelf[0] for shelf in contract[0]]) or not is_settled(length):
        return False
    sures = {ask: sure for ask, shelf, sure in asks}
    return are_things(boxes, BOXES, sures) and are_things(pile, PILE, sures)


def thing_within(one, other, length):
    """Whether what is known of a box lies within what is known of another one; length is one's state's."""
    if other[0] == "unset":
        return True
    if one[0] == "length" and other[0] == "number":
        return lies_within(length, other[1])
    if one[0] in ("unset", "length", "maybe"):
        return one == other
    # What is left has a known number last, and ahead of it its kind and perhaps its ask.
    return one[:-1] == other[:-1] and lies_within(one[-1], other[-1])


def state_within(one, other):
    """Whether one state lies within the other one."""
    # A walk asks this very often of states that are mostly the same, so what is equal is passed over.
    length = one[3]
    if one[2] != other[2] or (length != other[3] and not lies_within(length, other[3])):
        return False
    for first, second in zip(one[0] + one[1], other[0] + other[1]):
        if first != second and not thing_within(first, second, length):
            return False
    return True


def longer_choices(choice, ask, numbers):
    """A choice with each of these askings, or None, for one ask more."""
    taken = list(choice.values())
    return [{**choice, ask: number} for number in numbers if number is None or number not in taken]


def many_chosen(choice):
    """For how many asks an asking was chosen."""
    return len([number for number in choice.values() if number is not None])


def choices_of(asks, lent):
    """All ways to choose for each ask a lent asking of its shelf, or None, so that none is left over."""
    # A state has few asks, so this is small; more lent ones can't all be chosen.
    if len(lent) > len(asks):
        return []
    choices = [{}]
    for ask, shelf, sure in asks:
        numbers = [number for number, its_shelf in lent if its_shelf == shelf]
        if not sure:
            numbers.append(None)
        choices = [longer for choice in choices for longer in longer_choices(choice, ask, numbers)]
    return [choice for choice in choices if many_chosen(choice) == len(lent)]


def pointer_fits(thing, value):
    """Whether a value is a number or pointer like a thing that has a known number last, and held."""
    return value is not None and value[:-1] == thing[:-1] and holds(thing[-1], value[-1])


def thing_fits(thing, value, choice, many):
    """Whether a box or cell has what is known of it, by a choice of askings and the length of the input."""
    match thing:
        case ("unset",):
            return True
        case ("length",):
            return value == ("number", many)
        case ("maybe", ask):
            return value == (("number", 0) if choice[ask] is None else ("room", choice[ask], 0))
        case ("room", ask, known):
            return pointer_fits(("room", choice[ask], known), value)
        case _:
            return pointer_fits(thing, value)


def state_holds(state, runner):
    """Whether a state holds what a Runner tells."""
    boxes, pile, asks, length = state
    many = len(runner.given())
    if not holds(length, many):
        return False
    pairs = list(zip(boxes + pile, runner.boxes() + runner.pile()))
    for choice in choices_of(asks, runner.lent()):
        if all(thing_fits(thing, value, choice, many) for thing, value in pairs):
            return True
    return False


def first_state():
    """What is known as a run begins."""
    start = (("pile", just(0)), ("input", just(0)), ("length",))
    boxes = start + (("unset",),) * (BOXES - len(start))
    return (boxes, (("unset",),) * PILE, (), span(0, MOST_CELLS))
