"""By which rows an ordinary machine forgets, and where it may have come from."""

from backstair.tape import moved


def meet(one, two):
    """Return whether two rows lead two different configurations to the same one."""
    if one is None or two is None or one[2] != two[2]:
        return False
    return one[1] != two[1] or one[0] == two[0]


def clashes(machine):
    """Return the list of the pairs of places of the table by which a machine forgets."""
    rows = machine.table()
    places = [(state, mark) for state in range(machine.states) for mark in range(machine.marks)]
    found = []
    for i in range(len(rows)):
        for j in range(i + 1, len(rows)):
            if meet(rows[i], rows[j]):
                found.append((places[i], places[j]))
    return found


def forgets(machine):
    """Return whether a machine leads two configurations to one."""
    return len(clashes(machine)) > 0


def before(machine, configuration):
    """Return the list of all configurations from which one step leads to this one."""
    found = []
    for state in range(machine.states):
        for mark in range(machine.marks):
            row = machine.row(state, mark)
            if row is None or row[2] != configuration[0]:
                continue
            left, written, right = moved(configuration[1:], -row[1])
            if written == row[0]:
                found.append((state, left, mark, right))
    return sorted(found)
