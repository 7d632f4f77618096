"""Ordinary machines that note which rows they used, and what their notes tell."""

from backstair.errors import BadPast
from backstair.kinds import is_number
from backstair.several import Several
from backstair.tape import moved


def numbered(machine):
    """Return the list of the pairs of a machine, each with its number, state, mark and row."""
    rows = machine.table()
    return [(pair, pair // machine.marks, pair % machine.marks, row) for pair, row in enumerate(rows)]


def history_rows(machine):
    """Return the rows of the machine with notes."""
    enter = machine.states
    go = 2 * machine.states
    note = go + machine.marks * machine.states
    rows = []
    for pair, state, mark, row in numbered(machine):
        if row is None:
            continue
        written, move, after = row
        rows.append(("write", state, (mark, 0), (written, 0), go + pair))
        rows.append(("move", go + pair, (move, 0), note + pair))
        for seen in range(machine.marks):
            rows.append(("write", note + pair, (seen, 0), (seen, pair + 1), enter + after))
    for state in range(machine.states):
        rows.append(("move", enter + state, (0, 1), state))
    return rows


class History:
    """The stair from an ordinary machine to the machine of two tapes that notes its rows."""

    def __init__(self, machine):
        pairs = machine.marks * machine.states
        self.upper = machine
        self.lower = Several(2, pairs + 1, 2 * machine.states + 2 * pairs, history_rows(machine))

    def down(self, configuration, past):
        """Return the lower configuration that belongs to an upper one with this past."""
        notes = [self.upper.marks * state + mark + 1 for state, mark in past]
        return (configuration[0], (configuration[1:], (tuple(notes[::-1]), 0, ())))

    def up(self, configuration):
        """Return the upper configuration and the past to which a lower one belongs, or None."""
        state, (tape, (left, mark, right)) = configuration
        upper = (state,) + tape
        # The lower machine has more states and marks than the upper one.
        if not self.upper.is_configuration(upper):
            return None
        if mark != 0 or right != () or 0 in left:
            return None
        return (upper, tuple([divmod(note - 1, self.upper.marks) for note in left[::-1]]))

    def pace(self, configuration):
        """Return the number of lower steps for one upper step from here."""
        if self.upper.stopped(configuration):
            return 0
        return 4


def row_of(machine, pair):
    """Return the row of a pair, or None if it has none or is no pair of the machine."""
    if not isinstance(pair, tuple) or len(pair) != 2:
        return None
    state, mark = pair
    if not is_number(state, 0, machine.states - 1) or not is_number(mark, 0, machine.marks - 1):
        return None
    return machine.row(state, mark)


def undone(machine, configuration, pair):
    """Return the configuration in which the row of a pair leads to this one."""
    row = row_of(machine, pair)
    if row is None:
        raise BadPast("the pair has no row")
    written, move, after = row
    if after != configuration[0]:
        raise BadPast("the row goes to another state")
    left, mark, right = moved(configuration[1:], -move)
    if mark != written:
        raise BadPast("the mark that the row writes does not stand there")
    return (pair[0], left, pair[1], right)


def trail(machine, configuration, past):
    """Return the list of the configurations of the run with this past that ends here."""
    found = [configuration]
    for pair in past[::-1]:
        configuration = undone(machine, configuration, pair)
        found.append(configuration)
    return found[::-1]


def past_of(machine, configuration, steps):
    """Return the past of a run of at most so many steps from a configuration."""
    past = []
    while len(past) < steps:
        after = machine.step(configuration)
        if after is None:
            break
        past.append((configuration[0], configuration[2]))
        configuration = after
    return tuple(past)
