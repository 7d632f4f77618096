"""Machines of several tapes backwards."""

from backstair.rows import applied, first_clash, turned
from backstair.several import Several


def clash(machine):
    """Return the first pair of rows that clash backwards, or None."""
    return first_clash([turned(row) for row in machine.table()])


def meeting(tapes, one, two):
    """Return a configuration to which both of two rows that clash backwards lead."""
    marks = (0,) * tapes
    # Two write rows that clash write the same, so it does not matter which one is taken.
    for row in (one, two):
        if row[0] == "write":
            marks = row[3]
    return (one[-1], tuple([((), mark, ()) for mark in marks]))


def witness(machine):
    """Return two configurations and the one to which both lead, or None if there are none."""
    pair = clash(machine)
    if pair is None:
        return None
    rows = machine.table()
    one = rows[pair[0]]
    two = rows[pair[1]]
    both = meeting(machine.tapes, one, two)
    return (applied(turned(one), both), applied(turned(two), both), both)


def inverse(machine):
    """Return the machine that goes the way of a machine backwards."""
    # Rows that clash backwards clash forwards once they are turned: Several raises Clash for them.
    return Several(machine.tapes, machine.marks, machine.states, [turned(row) for row in machine.table()])
