"""Things that several tests hand in or ask for."""

import inspect
import sys
import tracemalloc


class EqualToAll:
    """Calls itself equal to anything, as a careless check would believe."""

    def __eq__(self, other):
        return True

    def __hash__(self):
        return 0


class EqualToNone:
    """Can't be compared at all."""

    def __eq__(self, other):
        raise RuntimeError("compared")

    __hash__ = None


def odd_things():
    """Things of other kinds than numbers, texts and tuples, made anew each time."""
    return [
        None, True, False, 0.0, 1.0, 1.5, 2j, b"", b"plus", "", [], [0, 0], [["plus"]], {}, {"plus": 1},
        set(), {1, 2}, frozenset(), object(), int, len, range(2), bytearray(b"same"),
        EqualToAll(), EqualToNone(),
    ]


def shape(function):
    """The arguments of a function as the interface writes them: by place, then by name alone."""
    by_place, by_name = [], {}
    for argument in inspect.signature(function).parameters.values():
        if argument.kind == argument.POSITIONAL_OR_KEYWORD and argument.default is argument.empty:
            by_place.append(argument.name)
        elif argument.kind == argument.KEYWORD_ONLY:
            by_name[argument.name] = argument.default
        else:
            raise AssertionError(f"{function.__name__}: {argument}")
    return by_place, by_name


def cost(action):
    """How many lines an action does, and how many bytes it needs at the most."""
    lines = 0

    def trace(frame, event, arg):
        nonlocal lines
        if event == "line":
            lines += 1
        return trace

    tracemalloc.start()
    before = sys.gettrace()
    try:
        sys.settrace(trace)
        action()
        sys.settrace(before)
        room = tracemalloc.get_traced_memory()[1]
    finally:
        sys.settrace(before)
        tracemalloc.stop()
    return lines, room


def all_bits(wide):
    """All sure bits of a width."""
    top = 1 << wide
    return [(value, unsure) for unsure in range(top) for value in range(top) if value & unsure == 0]


def held(bits, wide):
    """All worths that sure bits hold, told bit by bit."""
    value, unsure = bits
    worths = [0]
    for place in range(wide):
        bit = 1 << place
        if unsure & bit:
            worths = worths + [worth + bit for worth in worths]
        elif value & bit:
            worths = [worth + bit for worth in worths]
    return worths


def sharpest(worths, wide):
    """The sharpest sure bits that hold all of some worths, told bit by bit."""
    value = unsure = 0
    for place in range(wide):
        seen = {(worth >> place) & 1 for worth in worths}
        if len(seen) == 2:
            unsure |= 1 << place
        elif seen == {1}:
            value |= 1 << place
    return (value, unsure)


def with_sign(worth, wide):
    """A worth with sign, told by the half of the worths in which it lies."""
    return worth if worth < 2 ** (wide - 1) else worth - 2 ** wide


def any_six(wide):
    """All six numbers of a width, their ends perhaps exchanged."""
    worths = range(2 ** wide)
    signs = range(-(2 ** (wide - 1)), 2 ** (wide - 1))
    return [
        bits + (least, most, low, high)
        for bits in all_bits(wide) for least in worths for most in worths for low in signs for high in signs
    ]


def all_known(wide):
    """All known numbers of a width, settled or not."""
    return [six for six in any_six(wide) if six[2] <= six[3] and six[4] <= six[5]]


def held_by(known, wide):
    """All worths that a known number holds, one by one."""
    return [
        worth for worth in held(known[:2], wide)
        if known[2] <= worth <= known[3] and known[4] <= with_sign(worth, wide) <= known[5]
    ]


def figures(worth, wide):
    """The bits of a worth, from the highest on, as a text."""
    return "".join("1" if worth & (1 << place) else "0" for place in reversed(range(wide)))


def plain_rules(wide):
    """The rules of point [8], each a step from six numbers to six, or None."""

    def by_bits(six):
        value, unsure, least, most, low, high = six
        return (value, unsure, max(least, value), min(most, value + unsure), low, high)

    def by_worths(six):
        value, unsure, least, most, low, high = six
        if (least < 2 ** (wide - 1)) != (most < 2 ** (wide - 1)):
            return six
        return (value, unsure, least, most, max(low, with_sign(least, wide)), min(high, with_sign(most, wide)))

    def by_signs(six):
        value, unsure, least, most, low, high = six
        if (low < 0) != (high < 0):
            return six
        return (value, unsure, max(least, low % 2 ** wide), min(most, high % 2 ** wide), low, high)

    def by_alike(six):
        value, unsure, least, most, low, high = six
        place = wide
        for one, other in zip(figures(least, wide), figures(most, wide)):
            place -= 1
            if one != other:
                break
            bit = 2 ** place
            if unsure & bit:
                unsure -= bit
                value += bit if one == "1" else 0
            elif bool(value & bit) != (one == "1"):
                return None
        return (value, unsure, least, most, low, high)

    return [by_bits, by_worths, by_signs, by_alike]


def plain_settled(six, wide, source=None):
    """Six numbers settled by the rules, one at a time, in whatever order."""
    rules = plain_rules(wide)
    if source is not None:
        source.shuffle(rules)
    turned = True
    while turned:
        turned = False
        for rule in rules:
            if six[2] > six[3] or six[4] > six[5]:
                return None
            came = rule(six)
            if came is None:
                return None
            turned = turned or came != six
            six = came
    return six


def drawn_known(source, wide):
    """A known number that is settled, of few or many worths, about the ends or not."""
    top, half = 2 ** wide - 1, 2 ** (wide - 1)
    while True:
        unsure = source.choice((0, top, top, source.getrandbits(wide), source.getrandbits(wide) | half,
                                2 ** source.randrange(wide + 1) - 1))
        value = source.choice((0, top, source.getrandbits(wide))) & ~unsure
        ends = sorted(source.choice((0, 1, half - 1, half, top - 1, top, source.getrandbits(wide))) for _ in "ab")
        signs = sorted(source.choice((-half, -1, 0, 1, half - 1, source.randrange(-half, half))) for _ in "ab")
        if source.random() < 0.5:
            ends = [0, top]
        if source.random() < 0.5:
            signs = [-half, half - 1]
        if half == 1:
            signs = [-1, 0]
        came = plain_settled((value, unsure, ends[0], ends[1], signs[0], signs[1]), wide)
        if came is not None:
            return came


def some_held(source, known, wide):
    """Some worths that a known number holds, its ends among them where they are held."""
    top = 2 ** wide
    tries = [known[2], known[3], known[4] % top, known[5] % top, known[0], known[0] + known[1]]
    tries += [known[0] | (source.getrandbits(wide) & known[1]) for _ in range(6)]
    tries += [source.randint(known[2], known[3]) for _ in range(3)]
    return [
        worth for worth in tries
        if worth & ~known[1] == known[0] and known[2] <= worth <= known[3]
        and known[4] <= with_sign(worth, wide) <= known[5]
    ]
