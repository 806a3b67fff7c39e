"""Faulting runs: looked for by trying inputs, then rooms and answers, too."""

from boundgate.errors import NoInput
from boundgate.inputs import MOST_CELLS, bare_shelves
from boundgate.runner import MOST_STEPS, run
from boundgate.worths import WIDE, greatest

SHORT_CELLS = 4

# As many inputs of at most four cells of three worths there are.
SHORT_TRIES = 121

MIXED_TRIES = 1000


def is_faulting(program, contract, thing, *, most=MOST_STEPS):
    """Whether a thing, of any kind, is a tuple (input, shelves, answers) by which a run faults."""
    if not isinstance(thing, tuple) or len(thing) != 3 or not isinstance(thing[1], dict):
        return False
    given, shelves, answers = thing
    try:
        ended = run(program, contract, given=given, shelves=shelves, answers=answers, most=most)
    except NoInput:
        return False
    return ended[0] != "end"


def short_inputs(cells):
    """All inputs of at most so many cells of 0, 1 and the greatest worth, the shorter ones ahead."""
    inputs = [[]]
    longest = [[]]
    while len(longest[0]) < cells:
        longest = [[*given, worth] for given in longest for worth in (0, 1, greatest(WIDE))]
        inputs.extend(longest)
    return inputs


def row_worths(row):
    """The worths that are written in a row."""
    if row[0] == "set":
        return [row[2]]
    return [part[1] for part in row if isinstance(part, tuple) and part[0] == "worth"]


def worths_of(program):
    """Worths at which runs of a program may part: those in its rows, and those beside them."""
    written = [0] + [worth for row in program for worth in row_worths(row)]
    return sorted({(worth + step) & greatest(WIDE) for worth in written for step in (-1, 0, 1)})


def mixed_rooms(size, worths, turn):
    """Rooms by all these worths as keys, by each second one, or none."""
    if turn % 3 == 2:
        return {}
    room = [worths[(turn + place) % len(worths)] for place in range(size)]
    return {key: list(room) for key in worths[::turn % 3 + 1]}


def mixed_try(contract, worths, turn):
    """A run with rooms and answers; from turn to turn all of it is mixed in another way."""
    many = len(worths)
    cells = turn * 5 % (MOST_CELLS + 1)
    given = [worths[(turn + place * (turn % 4)) % many] for place in range(cells)]
    shelves = {name: mixed_rooms(size, worths, turn) for name, size in contract[0]}
    answers = [worths[(turn * 7 + place) % many] for place in range(turn % 4)]
    return (given, shelves, answers)


def faulting(program, contract, *, tries=64, most=MOST_STEPS):
    """A tuple (input, shelves, answers) by which a run faults, None where none is found by so many tries."""
    # Where the tries aren't enough for all short inputs, some are left for rooms and answers.
    short = short_inputs(SHORT_CELLS if tries >= SHORT_TRIES else SHORT_CELLS - 1)
    worths = worths_of(program)
    for number in range(min(tries, len(short) + MIXED_TRIES)):
        if number < len(short):
            found = (short[number], bare_shelves(contract), [])
        else:
            found = mixed_try(contract, worths, number - len(short))
        if is_faulting(program, contract, found, most=most):
            return found
    return None
