"""Things that several tests hand in or ask for."""

import inspect
import sys
import tracemalloc


class EqualToAll:
    """Calls itself equal to anything, as a careless check would believe."""

    def __eq__(self, other):
        return True

    def __hash__(self):
        return 0


class EqualToNone:
    """Can't be compared at all."""

    def __eq__(self, other):
        raise RuntimeError("compared")

    __hash__ = None


def odd_things():
    """Things of other kinds than numbers, texts and tuples, made anew each time."""
    return [
        None, True, False, 0.0, 1.0, 1.5, 2j, b"", b"plus", "", [], [0, 0], [["plus"]], {}, {"plus": 1},
        set(), {1, 2}, frozenset(), object(), int, len, range(2), bytearray(b"same"),
        EqualToAll(), EqualToNone(),
    ]


def shape(function):
    """The arguments of a function as the interface writes them: by place, then by name alone."""
    by_place, by_name = [], {}
    for argument in inspect.signature(function).parameters.values():
        if argument.kind == argument.POSITIONAL_OR_KEYWORD and argument.default is argument.empty:
            by_place.append(argument.name)
        elif argument.kind == argument.KEYWORD_ONLY:
            by_name[argument.name] = argument.default
        else:
            raise AssertionError(f"{function.__name__}: {argument}")
    return by_place, by_name


def cost(action):
    """How many lines an action does, and how many bytes it needs at the most."""
    lines = 0

    def trace(frame, event, arg):
        nonlocal lines
        if event == "line":
            lines += 1
        return trace

    tracemalloc.start()
    before = sys.gettrace()
    try:
        sys.settrace(trace)
        action()
        sys.settrace(before)
        room = tracemalloc.get_traced_memory()[1]
    finally:
        sys.settrace(before)
        tracemalloc.stop()
    return lines, room


def all_bits(wide):
    """All sure bits of a width."""
    top = 1 << wide
    return [(value, unsure) for unsure in range(top) for value in range(top) if value & unsure == 0]


def held(bits, wide):
    """All worths that sure bits hold, told bit by bit."""
    value, unsure = bits
    worths = [0]
    for place in range(wide):
        bit = 1 << place
        if unsure & bit:
            worths = worths + [worth + bit for worth in worths]
        elif value & bit:
            worths = [worth + bit for worth in worths]
    return worths


def sharpest(worths, wide):
    """The sharpest sure bits that hold all of some worths, told bit by bit."""
    value = unsure = 0
    for place in range(wide):
        seen = {(worth >> place) & 1 for worth in worths}
        if len(seen) == 2:
            unsure |= 1 << place
        elif seen == {1}:
            value |= 1 << place
    return (value, unsure)
