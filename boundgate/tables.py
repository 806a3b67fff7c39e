"""Tables: for each row states with how many rows are left at the most, and the checker that lets them by."""

from boundgate.states import first_state, is_state, state_within
from boundgate.stepping import comes
from boundgate.worths import is_whole

MOST_LEFT = 10 ** 6


def is_entry(contract, thing):
    """Whether a thing, of any kind, is a tuple (state, left)."""
    if not isinstance(thing, tuple) or len(thing) != 2:
        return False
    state, left = thing
    return is_whole(left) and 1 <= left <= MOST_LEFT and is_state(contract, state)


def is_table(program, contract, thing):
    """Whether a thing, of any kind, has the form of a table for a program."""
    if not isinstance(thing, list) or len(thing) != len(program):
        return False
    if not all(isinstance(entries, list) for entries in thing):
        return False
    return all(is_entry(contract, entry) for entries in thing for entry in entries)


def lies_in(entries, state, left):
    """Whether a state lies within one of these entries' whose left is less."""
    return any(other_left < left and state_within(state, other) for other, other_left in entries)


def is_entry_good(program, contract, table, row, entry):
    """Whether no word is told of an entry, and all that comes of it lies in the table."""
    state, left = entry
    came = comes(program, contract, row, state)
    if isinstance(came, str):
        return False
    return all(lies_in(table[to], after, left) for to, after in came)


def lets_table(program, contract, thing):
    """Whether a thing, of any kind, is a table that is let by for a program and a contract."""
    if not is_table(program, contract, thing):
        return False
    if not any(state_within(first_state(), state) for state, left in thing[0]):
        return False
    for row, entries in enumerate(thing):
        if not all(is_entry_good(program, contract, thing, row, entry) for entry in entries):
            return False
    return True


def bound_of(table):
    """After how many rows, at the most, each run ends whose table was let by."""
    return max([left for state, left in table[0]])
