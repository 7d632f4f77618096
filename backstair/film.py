"""Films of ordinary machines: lines that go both ways, from any moment of which the whole past is told."""

from backstair.flystair import FlyStair
from backstair.pasts import count_pasts
from backstair.tape import trimmed


class Film:
    """The film of an ordinary machine, shown by its fly stair."""

    def __init__(self, machine):
        self.machine = machine
        self.stair = FlyStair(machine)

    def start(self, word):
        """Return the line with which the run from a word begins."""
        return self.stair.down(self.machine.begin(word))

    def shown(self, line):
        """Return the configuration that a line means, or None."""
        return self.stair.up(line)

    def forward(self, line, steps):
        """Return the line so many steps later."""
        return self.stair.lower.run(line, steps)

    def backward(self, line, steps):
        """Return the line so many steps earlier."""
        return self.stair.lower.run_back(line, steps)

    def moments(self, line, first, last):
        """Return the list of the pairs (n, configuration) at which a line means a configuration."""
        if first < 0:
            line = self.backward(line, -first)
        else:
            line = self.forward(line, first)
        found = []
        for moment in range(first, last + 1):
            upper = self.shown(line)
            if upper is not None:
                found.append((moment, upper))
            if moment < last:
                line = self.forward(line, 1)
        return found

    def answer(self, word, steps):
        """Return the configuration after so many steps of the machine, their number, and the word from the way back."""
        line = self.start(word)
        taken = 0
        upper = self.shown(line)
        while taken < steps and not self.machine.stopped(upper):
            line = self.forward(line, 2)
            taken += 1
            upper = self.shown(line)
        _, _, mark, right = self.shown(self.backward(line, 2 * taken))
        return (upper, taken, trimmed((mark,) + right))


def parted(machine, first, second, steps):
    """Return after how many steps, at most so many, two plain runs have the same configuration, or -1."""
    for taken in range(1, steps + 1):
        first = machine.step(first)
        second = machine.step(second)
        if first is None or second is None:
            return -1
        if first == second:
            return taken
    return -1


def lost(machine, configuration, steps):
    """Return the number of configurations that lead to this one in exactly so many steps."""
    return count_pasts(machine, configuration, steps)
