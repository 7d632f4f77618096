"""How many pasts a configuration of an ordinary machine has, counted without going through each one.

The way is gone from both of its ends, until the two meet; what need not be told apart is counted together.
- From its end it is gone back, through places (state, left, mark, right). They have only the marks to which the rest of
  the way back can come: it is too short for others, and it can go to a mark only if some row writes it there.
- From all its beginnings it is gone forth, through views (state, left, mark, right). They have only the marks that were
  read, or written over; the mark under the head is None if it is not read yet.
"""

# Stands for all marks under the head to which the way back cannot come again.
SOME_MARK = -1


def all_rows(machine):
    """Return the list of the rows of a machine that are not None, each with its state and mark."""
    found = []
    for at, row in enumerate(machine.table()):
        if row is not None:
            found.append((at // machine.marks, at % machine.marks, row))
    return found


def near(side, known, steps):
    """Return the marks on a side of the head to which a way back of so many steps can come."""
    found = []
    for mark in side[:steps]:
        if mark not in known:
            break
        found.append(mark)
    return tuple(found)


class BackWays:
    """The rows of a machine in order for ways back."""

    def __init__(self, machine):
        rows = all_rows(machine)
        # A head that moved to the right left its mark on its left side, and the other way round.
        self.on_left = {row[0]: True for _, _, row in rows if row[1] == 1}
        self.on_right = {row[0]: True for _, _, row in rows if row[1] == -1}
        self.origins = {}
        for state, mark, (written, move, after) in rows:
            if mark not in self.on_left and mark not in self.on_right:
                mark = SOME_MARK
            self.origins.setdefault((after, move, written), []).append((state, mark))

    def place(self, configuration, steps):
        """Return the place of a configuration for a way back of so many steps."""
        state, left, mark, right = configuration
        zeros = (0,) * steps
        return (state, near(left + zeros, self.on_left, steps), mark, near(right + zeros, self.on_right, steps))

    def earlier(self, places, steps):
        """Return the dict of the places before some places, with their numbers, for a way of so many steps more."""
        found = {}
        for (state, left, mark, right), many in places.items():
            if left != ():
                beside = near((mark,) + right, self.on_right, steps)
                for before, read in self.origins.get((state, 1, left[0]), ()):
                    place = (before, left[1:steps + 1], read, beside)
                    found[place] = found.get(place, 0) + many
            if right != ():
                beside = near((mark,) + left, self.on_left, steps)
                for before, read in self.origins.get((state, -1, right[0]), ()):
                    place = (before, beside, read, right[1:steps + 1])
                    found[place] = found.get(place, 0) + many
        return found


def first_view(side):
    """Return the nearest mark of a side of the head, or None if it is not read yet."""
    if side == ():
        return None
    return side[0]


def after_row(left, right, row):
    """Return the view after a row is used."""
    written, move, after = row
    if move == 1:
        return (after, (written,) + left, first_view(right), right[1:])
    return (after, left[1:], first_view(left), (written,) + right)


def later(machine, views):
    """Return the dict of the views after some views, with their numbers."""
    rows = machine.table()
    found = {}
    for (state, left, mark, right), many in views.items():
        for read in range(machine.marks):
            if mark is not None and mark != read:
                continue
            row = rows[state * machine.marks + read]
            if row is not None:
                view = after_row(left, right, row)
                found[view] = found.get(view, 0) + many
    return found


def met(places, views):
    """Return the number of ways on which some places and views meet."""
    shapes = {(len(left), mark is None, len(right)): True for _, left, mark, right in views}
    total = 0
    for (state, left, mark, right), many in places.items():
        for on_left, unread, on_right in shapes:
            if on_left <= len(left) and on_right <= len(right):
                view = (state, left[:on_left], None if unread else mark, right[:on_right])
                total += many * views.get(view, 0)
    return total


def count_pasts(machine, configuration, steps):
    """Return the number of configurations that lead to this one in exactly so many steps."""
    ways = BackWays(machine)
    places = {ways.place(configuration, steps): 1}
    views = {(state, (), None, ()): 1 for state in range(machine.states)}
    more = steps
    # The end that has branched less is gone on from, because either may branch beyond all measure.
    for _ in range(steps):
        if len(places) <= len(views):
            more -= 1
            places = ways.earlier(places, more)
        else:
            views = later(machine, views)
    return met(places, views)
