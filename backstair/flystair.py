"""Ordinary machines as lines of cells in parts, in which what they forget flies off to the left."""

from backstair.errors import BadParts
from backstair.lines import head_place, headed, line_of, tape_at
from backstair.parts import Parts, is_sizes


def memory_of(marks, state, mark):
    """Return the left letter of the memory of a state and a mark."""
    return 1 + marks * state + mark


def many_memories(machine):
    """Return the number of left letters without a head: the memories, and none."""
    return machine.states * machine.marks + 1


def quiet_changes(machine):
    """Return the pairs (triple, cell) for marks, for memories on their way, and for heads that come from the left."""
    marks = machine.marks
    pairs = []
    for mark in range(marks):
        pairs.append(((0, mark, 0), (0, mark, 0)))
        pairs += [((0, mark, memory), (memory, mark, 0)) for memory in range(1, many_memories(machine))]
        pairs += [((state + 1, mark, 0), (0, headed(marks, state, mark), 0)) for state in range(machine.states)]
    return pairs


def row_changes(machine, state, mark):
    """Return the pairs (triple, cell) that do what the row of a state and a mark does."""
    row = machine.row(state, mark)
    if row is None:
        return []
    marks = machine.marks
    written, move, after = row
    memory = memory_of(marks, state, mark)
    leaving = (0, headed(marks, state, mark), 0)
    if move == 1:
        return [(leaving, (memory, written, after + 1))]
    letter = (after + 1) * many_memories(machine) + memory
    pairs = [(leaving, (letter, written, 0))]
    pairs += [((0, there, letter), (memory, headed(marks, after, there), 0)) for there in range(marks)]
    return pairs


def line_changes(machine):
    """Return the changes of the line of a machine."""
    pairs = quiet_changes(machine)
    for state in range(machine.states):
        for mark in range(machine.marks):
            pairs += row_changes(machine, state, mark)
    return {triple: cell for triple, cell in pairs}


class FlyStair:
    """The stair from an ordinary machine to a line of cells in parts."""

    def __init__(self, machine):
        heads = machine.states + 1
        sizes = (heads * many_memories(machine), machine.marks * heads, heads)
        if not is_sizes(sizes):
            raise BadParts("the machine is too great")
        self.upper = machine
        self.lower = Parts(sizes, line_changes(machine))

    def down(self, configuration):
        """Return the line without memories that belongs to a configuration."""
        return line_of(self.upper.marks, configuration[0], configuration[1:])

    def up(self, configuration):
        """Return the configuration that a line means, or None."""
        place = head_place(self.upper.marks, configuration)
        if place is None or any([right != 0 for _, _, right in configuration]):
            return None
        if any([left >= many_memories(self.upper) for left, _, _ in configuration]):
            return None
        if any([left != 0 for left, _, _ in configuration[place + 1:]]):
            return None
        return tape_at(self.upper.marks, configuration, place)

    def pace(self, configuration):
        """Return the number of steps of the line for one step from here."""
        if self.upper.stopped(configuration):
            return 0
        return 2

    def memories(self, configuration):
        """Return the list of the pairs (state, mark) of the memories in a line, from the right to the left."""
        # A head on its way to the left has its memory in the same letter.
        letters = [left % many_memories(self.upper) for left, _, _ in configuration[::-1]]
        return [divmod(letter - 1, self.upper.marks) for letter in letters if letter != 0]


def past(stair, line):
    """Return the list of the configurations that the machine had, the latest first."""
    found = []
    for many in range(len(stair.memories(line)) + 1):
        if many > 0:
            line = stair.lower.run_back(line, 2)
        upper = stair.up(line)
        if upper is None:
            raise BadParts("the line does not mean a configuration that has this past")
        found.append(upper)
    return found
