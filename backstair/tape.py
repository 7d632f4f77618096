"""Ordinary machines with one tape."""

from backstair.errors import BadMachine, BadMark
from backstair.kinds import are_numbers, is_number


def trimmed(marks):
    """Return the tuple of the marks without the blanks at its end."""
    end = len(marks)
    while end > 0 and marks[end - 1] == 0:
        end -= 1
    return tuple(marks[:end])


def laid(word):
    """Return the tape (left, mark, right) with the head on the first mark of a word."""
    if len(word) == 0:
        return ((), 0, ())
    return ((), word[0], trimmed(word[1:]))


def pushed(mark, side):
    """Return the marks of a side of the head with one more, the nearest."""
    # A side never ends with a blank, so a blank is not kept behind the last mark.
    if mark == 0 and side == ():
        return ()
    return (mark,) + side


def nearest(side):
    """Return the nearest mark of a side of the head."""
    if side == ():
        return 0
    return side[0]


def moved(tape, move):
    """Return the tape (left, mark, right) after the head's move: -1, 0 or 1."""
    left, mark, right = tape
    if move == 1:
        return (pushed(mark, left), nearest(right), right[1:])
    if move == -1:
        return (left[1:], nearest(left), pushed(mark, right))
    return tape


def is_side(value, marks):
    """Return whether a value is what can stand on one side of the head."""
    return are_numbers(value, 0, marks - 1) and (value == () or value[-1] != 0)


def is_tape(value, marks):
    """Return whether a value is a tape (left, mark, right)."""
    if not isinstance(value, tuple) or len(value) != 3:
        return False
    left, mark, right = value
    return is_side(left, marks) and is_number(mark, 0, marks - 1) and is_side(right, marks)


def is_row(row, marks, states):
    """Return whether a value is a row of a machine with so many marks and states."""
    if row is None:
        return True
    if not isinstance(row, tuple) or len(row) != 3:
        return False
    mark, move, state = row
    if not is_number(move, -1, 1) or move == 0:
        return False
    return is_number(mark, 0, marks - 1) and is_number(state, 0, states - 1)


class Tape:
    """A machine with one tape; the rows stand state by state, mark by mark."""

    def __init__(self, marks, states, rows):
        if not is_number(marks, 2, 8):
            raise BadMachine("the number of marks is not from 2 to 8")
        if not is_number(states, 1, 40):
            raise BadMachine("the number of states is not from 1 to 40")
        if not isinstance(rows, list) or len(rows) != marks * states:
            raise BadMachine("the rows are not a list with one for each state and mark")
        for row in rows:
            if not is_row(row, marks, states):
                raise BadMachine("a row is neither None nor a mark, a move and a state")
        self.marks = marks
        self.states = states
        self._rows = list(rows)

    def row(self, state, mark):
        """Return the row of a state and a mark."""
        if not is_number(state, 0, self.states - 1) or not is_number(mark, 0, self.marks - 1):
            raise BadMachine("there is no such state or mark")
        return self._rows[state * self.marks + mark]

    def table(self):
        """Return the list of the rows."""
        return list(self._rows)

    def is_configuration(self, value):
        """Return whether a value is a configuration of this machine."""
        if not isinstance(value, tuple) or len(value) != 4:
            return False
        return is_number(value[0], 0, self.states - 1) and is_tape(value[1:], self.marks)

    def begin(self, word):
        """Return the configuration with state 0 and the head on the first mark of a word."""
        if not are_numbers(word, 0, self.marks - 1):
            raise BadMark("the word is not a tuple of marks")
        return (0,) + laid(word)

    def step(self, configuration):
        """Return the configuration after one step, or None if the machine has stopped."""
        state, left, mark, right = configuration
        row = self._rows[state * self.marks + mark]
        if row is None:
            return None
        written, move, after = row
        return (after,) + moved((left, written, right), move)

    def stopped(self, configuration):
        """Return whether the machine has stopped in this configuration."""
        return self.step(configuration) is None

    def run(self, configuration, steps):
        """Take at most so many steps; return the configuration and the number of steps."""
        taken = 0
        while taken < steps:
            after = self.step(configuration)
            if after is None:
                break
            configuration = after
            taken += 1
        return (configuration, taken)
