"""What a run is handed: its input, the shelves with their rooms, and the answers of the house."""

from boundgate.errors import NoInput
from boundgate.worths import is_whole, is_worth

MOST_CELLS = 16


def are_worths(things):
    """Whether all of these things, of any kind, are worths."""
    return all(is_worth(thing) for thing in things)


def is_room(thing, size):
    """Whether a thing, of any kind, is a room of so many cells."""
    return isinstance(thing, list) and len(thing) == size and are_worths(thing)


def are_rooms(thing, size):
    """Whether a thing, of any kind, is a dict from keys to rooms of so many cells."""
    if not isinstance(thing, dict) or not are_worths(thing):
        return False
    return all(is_room(room, size) for room in thing.values())


def are_shelves(thing, contract):
    """Whether a thing, of any kind, is what lies on just the shelves of a contract."""
    sizes = dict(contract[0])
    if not isinstance(thing, dict) or len(thing) != len(sizes):
        return False
    return all(name in sizes and are_rooms(thing[name], sizes[name]) for name in thing)


def look_at_inputs(contract, given, shelves, answers):
    """Refuses things, of any kind, that a run can't be handed; shelves may be None."""
    if not isinstance(given, (list, tuple)) or len(given) > MOST_CELLS or not are_worths(given):
        raise NoInput("input")
    if shelves is not None and not are_shelves(shelves, contract):
        raise NoInput("shelves")
    if not isinstance(answers, (list, tuple)) or not all(is_whole(answer) for answer in answers):
        raise NoInput("answers")


def copied_shelves(shelves):
    """The shelves with rooms of their own."""
    return {name: {key: list(room) for key, room in rooms.items()} for name, rooms in shelves.items()}


def bare_shelves(contract):
    """The shelves of a contract without rooms."""
    return {name: {} for name, size in contract[0]}
