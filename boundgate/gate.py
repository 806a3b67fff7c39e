"""Told: a program's states walked from the first one on, to a table, or to a word and the way to it."""

from boundgate.errors import TooMany
from boundgate.states import first_state, state_within
from boundgate.stepping import comes

MOST_STATES = 2000


class Walked:
    """A state that was come to at a row; its left is None as long as its ways are being walked."""

    def __init__(self, at, state, ways):
        self.at = at
        self.state = state
        self.ways = ways
        self.longest = 0
        self.left = None


def found_within(ones, state):
    """The first in which a state lies of those walked to their ends, else of those being walked, else None."""
    being_walked = None
    for one in ones:
        if one.left is None and being_walked is not None:
            continue
        if state_within(state, one.state):
            if one.left is not None:
                return one
            being_walked = one
    return being_walked


def next_due(path):
    """What is to be looked at next, a tuple (row, state); None where all ways were walked to their ends."""
    while path:
        last = path[-1]
        if last.ways:
            return last.ways.pop(0)
        last.left = last.longest + 1
        path.pop()
        if path:
            lengthen(path[-1], last.left)
    return None


def lengthen(one, left):
    """A way behind one was walked to its end, and has so many rows."""
    one.longest = max(one.longest, left)


def way_to(path, due):
    """The way from the first state to the one that is due."""
    return [(one.at, one.state) for one in path] + [due]


def told(program, contract, *, most=MOST_STATES):
    """A tuple ("in", table), or ("out", word, way)."""
    walked = [[] for row in program]
    path = []
    many = 0
    due = (0, first_state())
    while due is not None:
        row, state = due
        found = found_within(walked[row], state)
        if found is None:
            if many >= most:
                raise TooMany(most)
            many += 1
            came = comes(program, contract, row, state)
            if isinstance(came, str):
                return ("out", came, way_to(path, due))
            one = Walked(row, state, came)
            walked[row].append(one)
            path.append(one)
        elif found.left is None:
            return ("out", "over", way_to(path, due))
        else:
            lengthen(path[-1], found.left)
        due = next_due(path)
    return ("in", [[(one.state, one.left) for one in ones] for ones in walked])
