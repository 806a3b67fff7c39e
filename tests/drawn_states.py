"""States drawn by chance, the same ones each time: any ones, ones within others, ones that hold a Runner."""

from boundgate.known import all_of, just, lies_within, settled, span
from boundgate.reckon import met_known
from tests.things import drawn_known, some_held

UNSET = ("unset",)
LENGTH = ("length",)


def around(source, worth):
    """A known number that holds a worth."""
    least, most = source.choice(((worth, worth), (0, 65535), (max(0, worth - 2), min(65535, worth + 3))))
    known = span(least, most)
    return settled((known[0], known[1], least, most, known[4], known[5]))


def known_of(source, value, names, many):
    """Something that is known of what a box or cell has, and right; names: ask by asking."""
    if value is None or source.random() < 0.1:
        return UNSET
    if value == ("number", many) and source.random() < 0.5:
        return LENGTH
    if value[0] == "room":
        return ("room", names[value[1]], around(source, value[2]))
    return (value[0], around(source, value[1]))


def right_state(source, runner):
    """A state that holds what a Runner tells: its askings have other numbers, and some asks are of nothing."""
    lent = runner.lent()
    numbers = sorted(source.sample(range(4), len(lent)))
    order = source.sample(lent, len(lent))
    names = {asking: ask for ask, (asking, _) in zip(numbers, order)}
    asks = [(ask, shelf, True) for ask, (_, shelf) in zip(numbers, order)]
    if len(lent) < 4 and source.random() < 0.5:
        free = source.choice([ask for ask in range(4) if ask not in numbers])
        asks = sorted(asks + [(free, source.choice(("rooms", "halls")), False)])
    many = len(runner.given())
    boxes = tuple(known_of(source, value, names, many) for value in runner.boxes())
    pile = tuple(known_of(source, value, names, many) for value in runner.pile())
    return (boxes, pile, tuple(asks), around(source, many))


def small_known(source):
    """A known number of how far in a pointer leads, mostly a small one."""
    if source.random() < 0.1:
        return drawn_known(source, 16)
    least = source.choice((0, 0, 0, 1, 2, 3, 5, 7, 8, 65534, 65535))
    return span(least, min(65535, least + source.choice((0, 0, 0, 1, 2, 6))))


def number_known(source):
    return source.choice((just(0), all_of(), span(0, 16), small_known(source), drawn_known(source, 16)))


def drawn_thing(source, asks):
    """Anything that may be known of a box or cell by these asks."""
    kinds = ["unset", "length", "number", "number", "number", "pile", "input"] + ["ask"] * min(len(asks), 3)
    kind = source.choice(kinds)
    if kind == "unset":
        return UNSET
    if kind == "length":
        return LENGTH
    if kind == "ask":
        ask, _, sure = source.choice(asks)
        return ("room", ask, source.choice((just(0), small_known(source)))) if sure else ("maybe", ask)
    return (kind, number_known(source) if kind == "number" else small_known(source))


def drawn_asks(source, shelves=("rooms", "halls")):
    numbers = sorted(source.sample(range(4), source.choice((0, 0, 1, 1, 2, 3, 4))))
    return tuple((ask, source.choice(shelves), source.random() < 0.5) for ask in numbers)


def drawn_state(source, asks=None):
    """Any state by a contract with the shelves "rooms" and "halls"."""
    asks = drawn_asks(source) if asks is None else asks
    length = source.choice((span(0, 16), span(3, 16), just(0), just(5), just(16), span(2, 3), drawn_known(source, 16)))
    boxes = tuple(drawn_thing(source, asks) for _ in range(6))
    return (boxes, tuple(drawn_thing(source, asks) for _ in range(8)), asks, length)


def lesser_known(source, known):
    """A known number that lies within another one."""
    tries = [just(worth) for worth in some_held(source, known, 16)]
    tries += [met_known(known, drawn_known(source, 16)), met_known(known, small_known(source))]
    tries = [settled(one) for one in tries if one is not None]
    tries = [one for one in tries if one is not None and lies_within(one, known)] + [known, known]
    return source.choice(tries)


def lesser_thing(source, thing, asks, length):
    """What lies within what is known of a box or cell."""
    if thing == UNSET:
        return drawn_thing(source, asks) if source.random() < 0.5 else UNSET
    if thing == LENGTH or thing[0] == "maybe":
        return thing
    if thing[0] == "number" and lies_within(length, thing[1]) and source.random() < 0.5:
        return LENGTH
    return thing[:-1] + (lesser_known(source, thing[-1]),)


def lesser_state(source, state):
    """A state that lies within another one."""
    boxes, pile, asks, length = state
    length = lesser_known(source, length)
    boxes = tuple(lesser_thing(source, thing, asks, length) for thing in boxes)
    return (boxes, tuple(lesser_thing(source, thing, asks, length) for thing in pile), asks, length)


def state_of(boxes=(), pile=(), asks=(), length=span(0, 16)):
    """A state with these first boxes and cells, the others unset."""
    boxes, pile = tuple(boxes), tuple(pile)
    return (boxes + (UNSET,) * (6 - len(boxes)), pile + (UNSET,) * (8 - len(pile)), tuple(asks), length)


def turned(parts, place, part):
    """A tuple with another part at a place."""
    return parts[:place] + (part,) + parts[place + 1:]
