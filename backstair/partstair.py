"""Machines of one tape that go both ways, as lines of cells in parts."""

from backstair.errors import BadParts, Clash
from backstair.inverse import clash
from backstair.lines import head_place, headed, line_of, tape_at
from backstair.parts import Parts, is_sizes
from backstair.rows import by_place, row_for


def row_changes(row, marks):
    """Return the pairs (triple, cell) that do what a row does."""
    state = row[1]
    after = row[-1]
    if row[0] == "write":
        return [((0, headed(marks, state, row[2][0]), 0), (0, headed(marks, after, row[3][0]), 0))]
    move = row[2][0]
    pairs = []
    for mark in range(marks):
        leaving = (0, headed(marks, state, mark), 0)
        there = (0, headed(marks, after, mark), 0)
        if move == 0:
            pairs.append((leaving, there))
        elif move == 1:
            pairs += [(leaving, (0, mark, after + 1)), ((after + 1, mark, 0), there)]
        else:
            pairs += [(leaving, (after + 1, mark, 0)), ((0, mark, after + 1), there)]
    return pairs


def line_changes(machine):
    """Return the changes of the line of a machine."""
    pairs = [((0, mark, 0), (0, mark, 0)) for mark in range(machine.marks)]
    for row in machine.table():
        pairs += row_changes(row, machine.marks)
    return {triple: cell for triple, cell in pairs}


class PartStair:
    """The stair from a machine of one tape that goes both ways to a line of cells in parts."""

    def __init__(self, machine):
        if machine.tapes != 1:
            raise BadParts("the machine has more than one tape")
        heads = machine.states + 1
        sizes = (heads, machine.marks * heads, heads)
        if not is_sizes(sizes):
            raise BadParts("the machine is too great")
        pair = clash(machine)
        if pair is not None:
            raise Clash(pair[0], pair[1])
        self.upper = machine
        self.lower = Parts(sizes, line_changes(machine))
        self._places = by_place(machine.table())

    def down(self, configuration):
        """Return the line that belongs to a configuration."""
        state, tapes = configuration
        return line_of(self.upper.marks, state, tapes[0])

    def up(self, configuration):
        """Return the configuration to which a line belongs, or None."""
        place = head_place(self.upper.marks, configuration)
        if place is None or any([left != 0 or right != 0 for left, _, right in configuration]):
            return None
        upper = tape_at(self.upper.marks, configuration, place)
        return (upper[0], (upper[1:],))

    def pace(self, configuration):
        """Return the number of steps of the line for one step from here."""
        row = row_for(self._places, configuration)
        if row is None:
            return 0
        if row[0] == "move" and row[2] != (0,):
            return 2
        return 1
