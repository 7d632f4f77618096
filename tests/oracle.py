"""Slow and plain models of the machines, made from the document alone, to compare with."""

import random

# Values that are no integers here, or not the right ones; also what Python takes for 0 and 1.
ODD = [None, True, False, "", "0", "a", 0.0, 1.0, b"", b"\x00", (), (0,), (1,), [], [0], [1], {}, {0: 1},
       object(), 10 ** 40, -(10 ** 40), -1, -2, len]


def places_of(left, mark, right):
    """Return the dict from places to marks of a tape whose head stands at the place 0."""
    found = {0: mark}
    for at, item in enumerate(left):
        found[-1 - at] = item
    for at, item in enumerate(right):
        found[1 + at] = item
    return found


def tape_of(places, head):
    """Return the tape (left, mark, right) of a dict from places to marks."""
    used = [at for at, mark in places.items() if mark != 0]
    low, high = min(used, default=head), max(used, default=head)
    left = tuple(places.get(at, 0) for at in range(head - 1, low - 1, -1))
    right = tuple(places.get(at, 0) for at in range(head + 1, high + 1))
    return (left, places.get(head, 0), right)


def tape_step(rows, marks, configuration):
    """Return the configuration of a tape machine after one step, or None."""
    state, left, mark, right = configuration
    row = rows[state * marks + mark]
    if row is None:
        return None
    places = places_of(left, mark, right)
    places[0] = row[0]
    return (row[2],) + tape_of(places, row[1])


def some_tape(rng, marks, longest=4):
    """Return some tape (left, mark, right)."""
    sides = []
    for _ in range(2):
        side = [rng.randrange(marks) for _ in range(rng.randrange(longest + 1))]
        while side and side[-1] == 0:
            side.pop()
        sides.append(tuple(side))
    return (sides[0], rng.randrange(marks), sides[1])


def all_tapes(marks, longest):
    """Return all tapes with at most so many marks on each side of the head."""
    sides = [()]
    new = [()]
    for _ in range(longest):
        new = [side + (mark,) for side in new for mark in range(marks)]
        sides += [side for side in new if side[-1] != 0]
    return [(left, mark, right) for left in sides for mark in range(marks) for right in sides]


def some_rows(rng, marks, states, stops=3):
    """Return some rows of a tape machine; about one in `stops` is None."""
    rows = []
    for _ in range(marks * states):
        row = (rng.randrange(marks), rng.choice((-1, 1)), rng.randrange(states))
        rows.append(None if rng.randrange(stops) == 0 else row)
    return rows


def rng_of(seed):
    """Return a source of numbers that gives the same ones in each run."""
    return random.Random(seed)
