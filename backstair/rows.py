"""The rows of machines of several tapes: their form, their clashes, and what they do."""

from backstair.kinds import are_numbers, is_number
from backstair.tape import moved


def is_row(row, tapes, marks, states):
    """Return whether a value is a row of a machine with so many tapes, marks and states."""
    if not isinstance(row, tuple) or len(row) < 4:
        return False
    if not is_number(row[1], 0, states - 1) or not is_number(row[-1], 0, states - 1):
        return False
    if row[0] == "write" and len(row) == 5:
        return is_line(row[2], tapes, 0, marks - 1) and is_line(row[3], tapes, 0, marks - 1)
    if row[0] == "move" and len(row) == 4:
        return is_line(row[2], tapes, -1, 1)
    return False


def is_line(value, tapes, low, high):
    """Return whether a value is a tuple with an integer from `low` to `high` for each tape."""
    return are_numbers(value, low, high) and len(value) == tapes


def turned(row):
    """Return the row backwards."""
    if row[0] == "write":
        _, state, reads, writes, after = row
        return ("write", after, writes, reads, state)
    _, state, moves, after = row
    return ("move", after, tuple([-move for move in moves]), state)


def first_clash(rows):
    """Return the first pair of rows that clash forwards, or None."""
    beyond = len(rows)
    found = None
    nearest_row = {}
    nearest_move = {}
    nearest_write = {}
    # From the last row to the first, so that each row is compared with the nearest ones
    # behind it only: pair by pair, 20000 rows would take too long.
    for i in reversed(range(len(rows))):
        kind, state, reads = rows[i][:3]
        if kind == "move":
            j = nearest_row.get(state, beyond)
            nearest_move[state] = i
        else:
            j = min(nearest_move.get(state, beyond), nearest_write.get((state, reads), beyond))
            nearest_write[(state, reads)] = i
        nearest_row[state] = i
        if j < beyond:
            found = (i, j)
    return found


def by_place(rows):
    """Return a dict of the rows, to find the one that applies."""
    places = {}
    for row in rows:
        if row[0] == "move":
            places[row[1]] = row
        else:
            places[(row[1], row[2])] = row
    return places


def applied(row, configuration):
    """Return the configuration to which a row that applies to this one leads."""
    tapes = configuration[1]
    if row[0] == "write":
        after = [(tape[0], mark, tape[2]) for tape, mark in zip(tapes, row[3])]
    else:
        after = [moved(tape, move) for tape, move in zip(tapes, row[2])]
    return (row[-1], tuple(after))


def row_for(places, configuration):
    """Return the row that applies to a configuration, of rows that `by_place` put in order, or None."""
    state, tapes = configuration
    row = places.get(state)
    if row is None:
        row = places.get((state, tuple([tape[1] for tape in tapes])))
    return row


def stepped(places, configuration):
    """Return the configuration after one step by rows that `by_place` put in order, or None."""
    row = row_for(places, configuration)
    if row is None:
        return None
    return applied(row, configuration)


def ran(places, configuration, steps):
    """Take at most so many steps; return the configuration and the number of steps."""
    taken = 0
    while taken < steps:
        after = stepped(places, configuration)
        if after is None:
            break
        configuration = after
        taken += 1
    return (configuration, taken)
