"""Runs: a program run to its end or fault, or step by step, by a Runner."""

from boundgate.doing import do_step
from boundgate.errors import Bare
from boundgate.machine import Machine, moment_of, set_moment, told_end, unwrite

MOST_STEPS = 1000


def run(program, contract, *, given=(), shelves=None, answers=(), most=MOST_STEPS):
    """What a run of at most so many rows tells: (word, what, steps, shelves)."""
    machine = Machine(program, contract, given, shelves, answers)
    while machine.ending is None:
        if machine.rows_done >= most:
            machine.ending = ("over", None)
        else:
            do_step(machine)
    return told_end(machine)


class Runner:
    """A run that is done step by step, and taken back."""

    def __init__(self, program, contract, *, given=(), shelves=None, answers=()):
        self.machine = Machine(program, contract, given, shelves, answers)
        self.history = []

    def step(self):
        """Does a step; told is whether the run goes on."""
        if self.machine.ending is not None:
            return False
        ahead = moment_of(self.machine)
        do_step(self.machine)
        self.history.append((ahead, self.machine.written))
        return self.machine.ending is None

    def row(self):
        """The number of the row at which it stands, None where it doesn't go on."""
        return self.machine.at if self.machine.ending is None else None

    def boxes(self):
        """What the boxes have."""
        return list(self.machine.box_values)

    def pile(self):
        """What the pile's cells have."""
        return list(self.machine.pile_values)

    def steps(self):
        """How many rows were done."""
        return self.machine.rows_done

    def lent(self):
        """The lent rooms: tuples (ask, shelf), rising."""
        lent = self.machine.lent_rooms
        return [(ask, lent[ask][0]) for ask in sorted(lent)]

    def given(self):
        """The input."""
        return list(self.machine.cells)

    def told(self):
        """How the run ended, as run tells it; None while it goes on."""
        return told_end(self.machine)

    def back(self):
        """Takes the last step back."""
        if not self.history:
            raise Bare("no step was done")
        ahead, written = self.history.pop()
        set_moment(self.machine, ahead)
        unwrite(self.machine, written)

    def twin(self):
        """A Runner that stands as this one, with the same to take back, and goes on by itself."""
        machine = self.machine
        other = Runner(
            machine.rows, machine.terms, given=machine.cells, shelves=machine.rooms, answers=machine.answers)
        set_moment(other.machine, moment_of(machine))
        other.history = list(self.history)
        return other

    def __len__(self):
        return len(self.history)
