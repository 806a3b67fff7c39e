"""Boxes 4 and 5 exchanged with one another, in programs, states and what is told of them."""


def exchanged(box):
    return {4: 5, 5: 4}.get(box, box)


def exchanged_by(by):
    return ("box", exchanged(by[1])) if by[0] == "box" else by


def exchanged_row(row):
    """A row with boxes 4 and 5 exchanged."""
    kind = row[0]
    if kind == "set":
        return ("set", exchanged(row[1]), row[2])
    if kind == "move":
        return ("move", exchanged(row[1]), exchanged(row[2]))
    if kind == "do":
        return ("do", row[1], exchanged(row[2]), exchanged_by(row[3]))
    if kind == "jump":
        return ("jump", row[1], exchanged(row[2]), exchanged_by(row[3]), row[4])
    if kind == "load":
        return ("load", exchanged(row[1]), exchanged(row[2]), row[3])
    if kind == "store":
        return ("store", exchanged(row[1]), row[2], exchanged_by(row[3]))
    return row


def exchanged_program(program):
    return [exchanged_row(row) for row in program]


def exchanged_state(state):
    boxes = state[0]
    return (boxes[:4] + (boxes[5], boxes[4]),) + state[1:]


def exchanged_answer(answer):
    """What told tells with boxes 4 and 5 exchanged."""
    if answer[0] == "in":
        return ("in", [[(exchanged_state(state), left) for state, left in entries] for entries in answer[1]])
    if answer[0] == "out":
        return ("out", answer[1], [(row, exchanged_state(state)) for row, state in answer[2]])
    return answer
