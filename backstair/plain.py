"""Ordinary machines as machines of one tape, and machines in a row."""

from backstair.errors import BadMachine
from backstair.kinds import is_number
from backstair.several import Several


def mover(states, move, after):
    """Return the number of the state that makes a move and goes on to the state `after`."""
    if move == -1:
        return states + 2 * after
    return states + 2 * after + 1


def plain(machine):
    """Return an ordinary machine as a machine of one tape, with two steps for one."""
    states = machine.states
    writers = []
    used = []
    for state in range(states):
        for mark in range(machine.marks):
            row = machine.row(state, mark)
            if row is not None:
                written, move, after = row
                writers.append(("write", state, (mark,), (written,), mover(states, move, after)))
                used.append((after, move))
    movers = []
    for after in range(states):
        for move in (-1, 1):
            if (after, move) in used:
                movers.append(("move", mover(states, move, after), (move,), after))
    return Several(1, machine.marks, 3 * states, writers + movers)


def raised(row, by):
    """Return a row with the numbers of its states raised."""
    return (row[0], row[1] + by) + row[2:-1] + (row[-1] + by,)


def joined(first, state, second):
    """Return a machine that does what `first` does up to a state, and goes on with `second`."""
    if first.tapes != second.tapes or first.marks != second.marks:
        raise BadMachine("the machines differ in their tapes or marks")
    if not is_number(state, 0, first.states - 1):
        raise BadMachine("there is no such state")
    bridge = ("move", state, (0,) * first.tapes, first.states)
    behind = [raised(row, first.states) for row in second.table()]
    # Too many states, and a row of `first` that clashes with the bridge, are refused here.
    return Several(first.tapes, first.marks, first.states + second.states, first.table() + [bridge] + behind)
