"""The text of an ordinary machine."""

from backstair.errors import BadText
from backstair.tape import Tape


def line_of(state, mark, row):
    """Return the line of one row."""
    if row is None:
        return f"{state} {mark} stop\n"
    written, move, after = row
    way = "left" if move == -1 else "right"
    return f"{state} {mark} > {written} {way} {after}\n"


def text_of(machine):
    """Return the text of a machine."""
    lines = [f"tape {machine.marks} {machine.states}\n"]
    for state in range(machine.states):
        for mark in range(machine.marks):
            lines.append(line_of(state, mark, machine.row(state, mark)))
    return "".join(lines)


def number_of(word, low, high):
    """Return the number from `low` to `high` that a word is, or None."""
    # int would also take signs, leading zeros and the digits of other scripts.
    for number in range(low, high + 1):
        if str(number) == word:
            return number
    return None


def move_of(word):
    """Return the move that a word is, or None."""
    if word == "left":
        return -1
    if word == "right":
        return 1
    return None


def read_sizes(line):
    """Return the numbers of marks and states of a first line."""
    words = line.split(" ")
    if len(words) != 3 or words[0] != "tape":
        raise BadText(1)
    marks = number_of(words[1], 2, 8)
    states = number_of(words[2], 1, 40)
    if marks is None or states is None:
        raise BadText(1)
    return (marks, states)


def read_row(line, number, marks, states):
    """Return the row of the line with this number."""
    place = number - 2
    words = line.split(" ")
    if words[:2] != [str(place // marks), str(place % marks)]:
        raise BadText(number)
    if words[2:] == ["stop"]:
        return None
    if len(words) != 6 or words[2] != ">":
        raise BadText(number)
    written = number_of(words[3], 0, marks - 1)
    move = move_of(words[4])
    after = number_of(words[5], 0, states - 1)
    if written is None or move is None or after is None:
        raise BadText(number)
    return (written, move, after)


def machine_of(text):
    """Return the machine whose text it is, or raise BadText with the first wrong line."""
    lines = text.split("\n")
    # Behind the last newline stands nothing, or a line that lacks its newline.
    rest = lines.pop()
    if len(lines) == 0:
        raise BadText(1)
    marks, states = read_sizes(lines[0])
    rows = []
    for line in lines[1:]:
        number = len(rows) + 2
        if len(rows) == marks * states:
            raise BadText(number)
        rows.append(read_row(line, number, marks, states))
    if len(rows) < marks * states or rest != "":
        raise BadText(len(rows) + 2)
    return Tape(marks, states, rows)
