"""Contracts: which shelves a house has, and which calls, with what they take and give."""

from boundgate.errors import NoCall, NoContract
from boundgate.names import is_name
from boundgate.programs import is_headed
from boundgate.worths import is_among, is_whole, is_worth

MOST_SHELVES = 4

MOST_CALLS = 12

MOST_TAKES = 3

MOST_SIZE = 8


def is_size(thing):
    """Whether a thing, of any kind, tells how many cells a room, or what is taken, has."""
    return is_whole(thing) and 1 <= thing <= MOST_SIZE


def are_ends(least, most):
    """Whether two things, of any kind, are worths, the first not above the second."""
    return is_worth(least) and is_worth(most) and least <= most


def is_shelf(thing):
    """Whether a thing, of any kind, is a shelf of a contract."""
    return isinstance(thing, tuple) and len(thing) == 2 and is_name(thing[0]) and is_size(thing[1])


def is_take(thing, shelves):
    """Whether a thing, of any kind, tells what a call takes; shelves are the contract's names."""
    if not is_headed(thing):
        return False
    match thing:
        case ("number", least, most):
            return are_ends(least, most)
        case ("cells", many):
            return is_size(many)
        case ("room", shelf):
            return is_among(shelf, shelves)
        case _:
            return False


def is_gives(thing, takes, shelves):
    """Whether a thing, of any kind, tells what a call that takes these gives."""
    if not is_headed(thing):
        return False
    kinds = [take[0] for take in takes]
    match thing:
        case ("number", least, most):
            return are_ends(least, most)
        case ("lent", shelf):
            return is_among(shelf, shelves) and kinds[:1] == ["number"]
        case ("back",):
            return kinds[:1] == ["room"] and kinds.count("room") == 1
        case _:
            return False


def is_call(thing, shelves):
    """Whether a thing, of any kind, is a call of a contract with these names of shelves."""
    if not isinstance(thing, tuple) or len(thing) != 3:
        return False
    name, takes, gives = thing
    if not is_name(name) or not isinstance(takes, tuple) or len(takes) > MOST_TAKES:
        return False
    return all(is_take(take, shelves) for take in takes) and is_gives(gives, takes, shelves)


def look_at_list(part, thing, most):
    """Refuses what is no list of at most so many."""
    if not isinstance(thing, list) or len(thing) > most:
        raise NoContract(part, None)


def look_at_contract(thing):
    """None of a contract; a thing of any other kind is refused."""
    if not isinstance(thing, tuple) or len(thing) != 2:
        raise NoContract(None, None)
    shelves, calls = thing
    look_at_list("shelves", shelves, MOST_SHELVES)
    shelf_names = []
    for number, shelf in enumerate(shelves):
        if not is_shelf(shelf) or shelf[0] in shelf_names:
            raise NoContract("shelves", number)
        shelf_names.append(shelf[0])
    look_at_list("calls", calls, MOST_CALLS)
    call_names = []
    for number, call in enumerate(calls):
        if not is_call(call, shelf_names) or call[0] in call_names:
            raise NoContract("calls", number)
        call_names.append(call[0])


def call_of(contract, name):
    """What the call of a name, a thing of any kind, takes and gives."""
    for called, takes, gives in contract[1]:
        if is_among(name, (called,)):
            return (takes, gives)
    raise NoCall(name)


def named_shelves(call):
    """The names of the shelves that a call takes rooms of, or lends them from."""
    takes, gives = call[1], call[2]
    return [part[1] for part in (*takes, gives) if part[0] in ("room", "lent")]


def is_turned(name, one, other):
    """Whether a call of that name isn't the same in both contracts, or has to do with unlike shelves."""
    calls = [call for call in one[1] if call[0] == name]
    if calls != [call for call in other[1] if call[0] == name]:
        return True
    sizes, other_sizes = dict(one[0]), dict(other[0])
    return any(sizes[shelf] != other_sizes[shelf] for call in calls for shelf in named_shelves(call))


def turned_calls(one, other):
    """The names of the calls, sorted, that aren't the same in both contracts, or whose shelves aren't."""
    names = [call[0] for call in one[1] + other[1]]
    return sorted({name for name in names if is_turned(name, one, other)})
