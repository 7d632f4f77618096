"""Slow and plain models of the machines, made from the document alone, to compare with."""

import random

# Values that are no integers here, or not the right ones; also what Python takes for 0 and 1.
ODD = [None, True, False, "", "0", "a", 0.0, 1.0, b"", b"\x00", (), (0,), (1,), [], [0], [1], {}, {0: 1},
       object(), 10 ** 40, -(10 ** 40), -1, -2, len]


def places_of(left, mark, right):
    """Return the dict from places to marks of a tape whose head stands at the place 0."""
    found = {0: mark}
    for at, item in enumerate(left):
        found[-1 - at] = item
    for at, item in enumerate(right):
        found[1 + at] = item
    return found


def tape_of(places, head):
    """Return the tape (left, mark, right) of a dict from places to marks."""
    used = [at for at, mark in places.items() if mark != 0]
    low, high = min(used, default=head), max(used, default=head)
    left = tuple(places.get(at, 0) for at in range(head - 1, low - 1, -1))
    right = tuple(places.get(at, 0) for at in range(head + 1, high + 1))
    return (left, places.get(head, 0), right)


def tape_step(rows, marks, configuration):
    """Return the configuration of a tape machine after one step, or None."""
    state, left, mark, right = configuration
    row = rows[state * marks + mark]
    if row is None:
        return None
    places = places_of(left, mark, right)
    places[0] = row[0]
    return (row[2],) + tape_of(places, row[1])


def tape_run(machine, configuration, steps):
    """Return the configurations of a run of at most so many steps of a tape machine."""
    run = [configuration]
    while len(run) <= steps:
        after = tape_step(machine.table(), machine.marks, run[-1])
        if after is None:
            break
        run.append(after)
    return run


def some_tape(rng, marks, longest=4):
    """Return some tape (left, mark, right)."""
    sides = []
    for _ in range(2):
        side = [rng.randrange(marks) for _ in range(rng.randrange(longest + 1))]
        while side and side[-1] == 0:
            side.pop()
        sides.append(tuple(side))
    return (sides[0], rng.randrange(marks), sides[1])


def all_tapes(marks, longest):
    """Return all tapes with at most so many marks on each side of the head."""
    sides = [()]
    new = [()]
    for _ in range(longest):
        new = [side + (mark,) for side in new for mark in range(marks)]
        sides += [side for side in new if side[-1] != 0]
    return [(left, mark, right) for left in sides for mark in range(marks) for right in sides]


def some_rows(rng, marks, states, stops=3):
    """Return some rows of a tape machine; about one in `stops` is None."""
    rows = []
    for _ in range(marks * states):
        row = (rng.randrange(marks), rng.choice((-1, 1)), rng.randrange(states))
        rows.append(None if rng.randrange(stops) == 0 else row)
    return rows


def rng_of(seed):
    """Return a source of numbers that gives the same ones in each run."""
    return random.Random(seed)


def clash_forwards(one, two):
    """Return whether two rows of a machine of several tapes clash forwards."""
    return one[1] == two[1] and not (one[0] == two[0] == "write" and one[2] != two[2])


def clash_backwards(one, two):
    """Return whether two rows of a machine of several tapes clash backwards."""
    return one[-1] == two[-1] and not (one[0] == two[0] == "write" and one[3] != two[3])


def first_pair(rows, clash):
    """Return the least pair of indexes of rows that clash, or None, by a look at all pairs."""
    for i in range(len(rows)):
        for j in range(i + 1, len(rows)):
            if clash(rows[i], rows[j]):
                return (i, j)
    return None


def several_step(rows, configuration):
    """Return the index of the row that applies, and the configuration after it; or None and None."""
    state, tapes = configuration
    marks = tuple(tape[1] for tape in tapes)
    for at, row in enumerate(rows):
        if row[1] != state or (row[0] == "write" and row[2] != marks):
            continue
        after = []
        for number, tape in enumerate(tapes):
            places = places_of(*tape)
            if row[0] == "write":
                places[0] = row[3][number]
            after.append(tape_of(places, row[2][number] if row[0] == "move" else 0))
        return at, (row[-1], tuple(after))
    return None, None


def several_run(rows, configuration, steps):
    """Return the list of the configurations of a run of at most so many steps."""
    run = [configuration]
    while len(run) <= steps:
        after = several_step(rows, run[-1])[1]
        if after is None:
            break
        run.append(after)
    return run


def some_several_row(rng, tapes, marks, states):
    """Return some row of a machine of several tapes."""
    state, after = rng.randrange(states), rng.randrange(states)
    if rng.randrange(3) == 0:
        return ("move", state, tuple(rng.choice((-1, 0, 1)) for _ in range(tapes)), after)
    reads = tuple(rng.randrange(marks) for _ in range(tapes))
    writes = tuple(rng.randrange(marks) for _ in range(tapes))
    return ("write", state, reads, writes, after)


def some_several_rows(rng, tapes, marks, states, tries, both_ways):
    """Return some rows that do not clash forwards; if it is asked for, not backwards either."""
    rows = []
    for _ in range(tries):
        row = some_several_row(rng, tapes, marks, states)
        wrong = any(clash_forwards(row, other) for other in rows)
        if both_ways:
            wrong = wrong or any(clash_backwards(row, other) for other in rows)
        if not wrong:
            rows.append(row)
    return rows


def some_configuration(rng, tapes, marks, states, longest=3):
    """Return some configuration of a machine of several tapes."""
    return (rng.randrange(states), tuple(some_tape(rng, marks, longest) for _ in range(tapes)))


def greatest_rows():
    """Return 20000 rows for 4 tapes, 400 marks and 5000 states, with which a machine goes both ways for ever.

    Each even state writes, in seven ways, on all tapes, and each odd one moves all heads to the right.
    """
    rows = []
    for state in range(0, 5000, 2):
        for mark in range(7):
            writes = ((state + mark) % 400, 399 - mark, state % 400, (state + 3 * mark + 1) % 400)
            rows.append(("write", state, (mark, 57 * mark, 0, mark), writes, state + 1))
        rows.append(("move", state + 1, (1, 1, 1, 1), (state + 2) % 5000))
    return rows
