"""Machines of several tapes, which can go both ways."""

from backstair.errors import BadMachine, BadMark, Clash
from backstair.kinds import are_numbers, is_number
from backstair.rows import by_place, first_clash, is_row, ran, stepped, turned
from backstair.tape import is_tape, laid

MOST_ROWS = 20000


class Several:
    """A machine of several tapes; each row either reads and writes, or moves."""

    def __init__(self, tapes, marks, states, rows):
        if not is_number(tapes, 1, 4):
            raise BadMachine("the number of tapes is not from 1 to 4")
        if not is_number(marks, 2, 400):
            raise BadMachine("the number of marks is not from 2 to 400")
        if not is_number(states, 1, 5000):
            raise BadMachine("the number of states is not from 1 to 5000")
        if not isinstance(rows, list) or len(rows) > MOST_ROWS:
            raise BadMachine("the rows are not a list of at most 20000")
        for row in rows:
            if not is_row(row, tapes, marks, states):
                raise BadMachine("a member of the list is not a row")
        pair = first_clash(rows)
        if pair is not None:
            raise Clash(pair[0], pair[1])
        self.tapes = tapes
        self.marks = marks
        self.states = states
        self._rows = list(rows)
        self._forth = by_place(rows)
        # Rows clash backwards exactly if, turned, they clash forwards.
        backwards = [turned(row) for row in rows]
        self._clash = first_clash(backwards)
        self._back = by_place(backwards)

    def table(self):
        """Return the list of the rows."""
        return list(self._rows)

    def is_configuration(self, value):
        """Return whether a value is a configuration of this machine."""
        if not isinstance(value, tuple) or len(value) != 2:
            return False
        state, tapes = value
        if not is_number(state, 0, self.states - 1):
            return False
        if not isinstance(tapes, tuple) or len(tapes) != self.tapes:
            return False
        return all([is_tape(tape, self.marks) for tape in tapes])

    def begin(self, words):
        """Return the configuration with state 0 and each head on the first mark of its word."""
        if not isinstance(words, tuple) or len(words) != self.tapes:
            raise BadMark("there is not one word for each tape")
        for word in words:
            if not are_numbers(word, 0, self.marks - 1):
                raise BadMark("a word is not a tuple of marks")
        return (0, tuple([laid(word) for word in words]))

    def step(self, configuration):
        """Return the configuration after one step, or None if the machine has stopped."""
        return stepped(self._forth, configuration)

    def stopped(self, configuration):
        """Return whether the machine has stopped in this configuration."""
        return self.step(configuration) is None

    def run(self, configuration, steps):
        """Take at most so many steps; return the configuration and the number of steps."""
        return ran(self._forth, configuration, steps)

    def back(self, configuration):
        """Return the configuration from which a step leads to this one, or None."""
        self._need_both_ways()
        return stepped(self._back, configuration)

    def run_back(self, configuration, steps):
        """Go back at most so many steps; return the configuration and the number of steps."""
        self._need_both_ways()
        return ran(self._back, configuration, steps)

    def _need_both_ways(self):
        """Raise Clash if the machine does not go both ways."""
        if self._clash is not None:
            raise Clash(self._clash[0], self._clash[1])
