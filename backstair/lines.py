"""Tapes as lines of cells in parts: each middle part has a mark, and one of them a head with it."""

from backstair.tape import trimmed


def headed(marks, state, mark):
    """Return the middle letter of a mark with a head in a state."""
    return marks * (state + 1) + mark


def line_of(marks, state, tape):
    """Return the line of a tape (left, mark, right) with the head in a state."""
    left, mark, right = tape
    middles = left[::-1] + (headed(marks, state, mark),) + right
    return tuple([(0, middle, 0) for middle in middles])


def head_place(marks, line):
    """Return the place of the only head in a middle part of a line, or None if there is not just one."""
    places = [place for place, cell in enumerate(line) if cell[1] >= marks]
    if len(places) != 1:
        return None
    return places[0]


def tape_at(marks, line, place):
    """Return the state of the head at a place of a line, and its tape: (state, left, mark, right)."""
    middles = [cell[1] for cell in line]
    higher, mark = divmod(middles[place], marks)
    return (higher - 1, trimmed(middles[:place][::-1]), mark, trimmed(middles[place + 1:]))
