"""The desk: a house that is asked by rows of words, and answers with texts."""

from boundgate.errors import NoRow, NotLet
from boundgate.faults import faulting
from boundgate.gate import told
from boundgate.house import House
from boundgate.names import is_name
from boundgate.texts import number_of, read, shown

SHELF = "rooms"

SIZE = 4


def desk_contract():
    """The contract of every desk's house."""
    return (
        [(SHELF, SIZE)],
        [
            ("find", (("number", 0, 65535),), ("lent", SHELF)),
            ("back", (("room", SHELF),), ("back",)),
            ("tell", (("number", 0, 255), ("cells", 2)), ("number", 0, 7)),
        ],
    )


def name_in(word):
    """The name that a word is."""
    if not is_name(word):
        raise NoRow("no name")
    return word


def number_in(word):
    """The number, none below nought, that a word writes."""
    number = number_of(word)
    if number is None or number < 0:
        raise NoRow("no number")
    return number


def numbers_in(word):
    """The numbers that a word writes, with `,` between, or `-` for none."""
    return [] if word == "-" else [number_in(part) for part in word.split(",")]


def room_in(word):
    """The room's numbers that a word writes."""
    room = numbers_in(word)
    if len(room) != SIZE:
        raise NoRow("no room")
    return room


def shown_numbers(numbers):
    """Numbers, written."""
    return ",".join([f"{number}" for number in numbers]) if numbers else "-"


def program_in(text):
    """The program that a row's text writes."""
    return read(text.replace("; ", "\n"))


def say_let(house, rest):
    """A program is let in, or told out."""
    word, blank, text = rest.partition(" ")
    name = name_in(word)
    if blank == "":
        raise NoRow("no text")
    program = program_in(text)
    try:
        return f"in {house.let(name, program)}"
    except NotLet as refusal:
        return f"out {refusal.word}"


def say_why(text):
    """Whether a program is told in, or by which rows it is told out."""
    answer = told(program_in(text), desk_contract())
    if answer[0] == "in":
        return "in"
    return " ".join([f"{row}" for row, state in answer[2]])


def say_fault(text):
    """By which input and answers a program's run faults."""
    found = faulting(program_in(text), desk_contract())
    if found is None:
        return "-"
    return f"{shown_numbers(found[0])} {shown_numbers(found[2])}"


def say_words(house, words):
    """What a row answers that has no program in it."""
    match words:
        case ["names"]:
            return " ".join(house.names()) if house.names() else "-"
        case ["go", name]:
            house.drop(name_in(name))
            return "ok"
        case ["fast", name]:
            return shown(house.program(name_in(name))).replace("\n", "; ")
        case ["run", name, given, answers]:
            numbers = (numbers_in(given), numbers_in(answers))
            what, steps = house.call(name_in(name), given=numbers[0], answers=numbers[1])
            return f"{what} {steps}"
        case ["put", key, room]:
            house.put(SHELF, number_in(key), room_in(room))
            return "ok"
        case ["room", key]:
            return shown_numbers(house.shelves()[SHELF].get(number_in(key), []))
        case ["count", name]:
            often, in_all = house.count(name_in(name))
            return f"{often} {in_all}"
        case _:
            raise NoRow("no such row")


class Desk:
    """Answers rows of words by a house of its own."""

    def __init__(self):
        self.house = House(desk_contract())

    def say(self, row):
        """The answer to a row, a thing of any kind."""
        if not isinstance(row, str) or "\n" in row:
            raise NoRow("no row")
        word, blank, rest = row.partition(" ")
        match (word, blank):
            case ("let", " "):
                return say_let(self.house, rest)
            case ("why", " "):
                return say_why(rest)
            case ("fault", " "):
                return say_fault(rest)
            case _:
                return say_words(self.house, row.split(" "))
