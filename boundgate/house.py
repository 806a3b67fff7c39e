"""A house: it keeps programs that were let in, shelves and counts from call to call."""

from boundgate.contracts import look_at_contract, turned_calls
from boundgate.errors import NoInput, NoName, NoShelf, NotLet, Shut, TooMany
from boundgate.faster import faster
from boundgate.gate import MOST_STATES, told
from boundgate.inputs import are_shelves, bare_shelves, copied_shelves, is_room
from boundgate.names import is_name
from boundgate.programs import calls_of, look_at_program
from boundgate.runner import run
from boundgate.tables import bound_of
from boundgate.worths import is_among, is_worth


def copied_contract(contract):
    """A contract with lists of its own."""
    return (list(contract[0]), list(contract[1]))


def kept_by(program, contract, most):
    """What is kept of a program: (as it was handed in, made faster, bound)."""
    answer = told(program, contract, most=most)
    if answer[0] == "out":
        raise NotLet(answer[1], answer[2])
    table = answer[1]
    return (list(program), faster(program, contract, table), bound_of(table))


def kept_still(entry, contract, most, turned):
    """What is kept of a program where calls of these names have turned; None where it must go."""
    program = entry[0]
    if not any(name in turned for name in calls_of(program)):
        return entry
    try:
        return kept_by(program, contract, most)
    except (NotLet, TooMany):
        return None


def rooms_by(contract, ahead, rooms):
    """The shelves of a contract with the rooms that lie there, by the contract ahead of it."""
    sizes = dict(ahead[0])
    for name, size in contract[0]:
        if name in sizes and sizes[name] != size and rooms[name]:
            raise NoInput("shelves")
    return {name: rooms.get(name, {}) for name, size in contract[0]}


def are_calls(thing):
    """Whether a thing, of any kind, is a list of tuples of three."""
    return isinstance(thing, list) and all(isinstance(part, tuple) and len(part) == 3 for part in thing)


def as_it_stood(thing):
    """A copy of a list, which nobody else can change; any other thing as it is."""
    return list(thing) if isinstance(thing, list) else thing


class House:
    """Runs just programs that were let in. What it keeps is never changed, but exchanged whole."""

    def __init__(self, contract, shelves=None, *, most=MOST_STATES):
        look_at_contract(contract)
        if shelves is not None and not are_shelves(shelves, contract):
            raise NoInput("shelves")
        self.terms = copied_contract(contract)
        self.rooms = bare_shelves(contract) if shelves is None else copied_shelves(shelves)
        self.most_states = most
        self.kept = {}
        self.counts = {}
        self.is_shut = False

    def let(self, name, program):
        """Lets a program in; told is its bound."""
        self.look_open()
        if not is_name(name):
            raise NoName(name)
        look_at_program(program)
        kept = kept_by(program, self.terms, self.most_states)
        self.kept = {**self.kept, name: kept}
        self.counts = {**self.counts, name: (0, 0)}
        return kept[2]

    def drop(self, name):
        """Lets a program go."""
        self.look_open()
        self.look_up(name)
        self.kept = {other: self.kept[other] for other in self.kept if other != name}
        self.counts = {other: self.counts[other] for other in self.kept}

    def call(self, name, *, given=(), answers=()):
        """Runs a kept program; told is (what, steps)."""
        self.look_open()
        return self.called(name, given, answers)

    def call_all(self, calls, *, watcher=None):
        """Runs several, each (name, input, answers), and calls the watcher behind each; all of them or none."""
        self.look_open()
        if not are_calls(calls):
            raise NoInput("calls")
        rooms, counts = self.rooms, self.counts
        try:
            came = self.all_called(calls, watcher)
            rooms, counts = self.rooms, self.counts
            return came
        finally:
            self.rooms, self.counts, self.is_shut = rooms, counts, False

    def contract_is(self, contract):
        """Tells the contract anew; told are the names of the programs that go."""
        self.look_open()
        look_at_contract(contract)
        rooms = rooms_by(contract, self.terms, self.rooms)
        turned = turned_calls(self.terms, contract)
        looked_at = {name: kept_still(self.kept[name], contract, self.most_states, turned) for name in self.kept}
        gone = [name for name in self.names() if looked_at[name] is None]
        self.terms, self.rooms = copied_contract(contract), rooms
        self.kept = {name: looked_at[name] for name in looked_at if name not in gone}
        self.counts = {name: self.counts[name] for name in self.kept}
        return gone

    def names(self):
        """The names of the kept programs, sorted."""
        return sorted(self.kept)

    def contract(self):
        """The contract."""
        return copied_contract(self.terms)

    def shelves(self):
        """The shelves with their rooms."""
        return copied_shelves(self.rooms)

    def program(self, name):
        """The kept program, made faster."""
        return list(self.look_up(name)[1])

    def bound(self, name):
        """After how many rows, at the most, a kept program ends."""
        return self.look_up(name)[2]

    def count(self, name):
        """How often a program was called, and how many rows it did in all."""
        self.look_up(name)
        return self.counts[name]

    def put(self, shelf, key, room):
        """Puts a room on a shelf."""
        self.look_open()
        size = self.size_of_shelf(shelf)
        if not is_worth(key) or not is_room(room, size):
            raise NoInput("shelves")
        self.rooms = {**self.rooms, shelf: {**self.rooms[shelf], key: list(room)}}

    def take(self, shelf, key):
        """Takes a room from a shelf; told is the room, None where there is none."""
        self.look_open()
        self.size_of_shelf(shelf)
        if not is_worth(key):
            raise NoInput("shelves")
        ahead = self.rooms[shelf]
        self.rooms = {**self.rooms, shelf: {other: ahead[other] for other in ahead if other != key}}
        return list(ahead[key]) if key in ahead else None

    def look_open(self):
        """Refuses a deed while a watcher is called."""
        if self.is_shut:
            raise Shut("a watcher is called")

    def look_up(self, name):
        """What is kept of a program, by a name of any kind."""
        if not is_name(name) or name not in self.kept:
            raise NoName(name)
        return self.kept[name]

    def size_of_shelf(self, shelf):
        """How many cells the rooms of a shelf have, by a name of any kind."""
        sizes = dict(self.terms[0])
        if not is_among(shelf, list(sizes)):
            raise NoShelf(shelf)
        return sizes[shelf]

    def called(self, name, given, answers):
        """Runs a kept program, and keeps what it leaves."""
        rows, bound = self.look_up(name)[1:]
        ended = run(rows, self.terms, given=given, shelves=self.rooms, answers=answers, most=bound)
        what, steps, self.rooms = ended[1:]
        often, in_all = self.counts[name]
        self.counts = {**self.counts, name: (often + 1, in_all + steps)}
        return (what, steps)

    def all_called(self, calls, watcher):
        """Runs several as they stood, with the watcher called behind each."""
        came = []
        stood = [(name, as_it_stood(given), as_it_stood(answers)) for name, given, answers in calls]
        for name, given, answers in stood:
            came.append(self.called(name, given, answers))
            if watcher is not None:
                # It is call_all that opens the house again, whatever the watcher raises.
                self.is_shut = True
                watcher(name, came[-1])
        return came
