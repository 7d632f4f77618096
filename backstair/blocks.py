"""Balls on a grid that is cut into blocks of two by two places."""

from backstair.errors import BadBlocks
from backstair.kinds import are_numbers, is_number, is_whole

PLACES = ((0, 0), (1, 0), (0, 1), (1, 1))


def is_rule(value):
    """Return whether a value is a tuple of the numbers 0 to 15 in some order, the first one 0."""
    if not are_numbers(value, 0, 15) or len(value) != 16:
        return False
    return value[0] == 0 and len(set(value)) == 16


def inverse_rule(rule):
    """Return the rule that undoes a rule."""
    return tuple([rule.index(number) for number in range(16)])


def numbered_blocks(phase, places):
    """Return the dict from the corners of the blocks of a phase to their numbers, without those that have no ball."""
    blocks = {}
    for x, y in places:
        right = (x - phase) & 1
        below = (y - phase) & 1
        corner = (x - right, y - below)
        blocks[corner] = blocks.get(corner, 0) + (1 << (right + 2 * below))
    return blocks


def replaced(rule, phase, places):
    """Return the places of the balls after the blocks of a phase are replaced."""
    blocks = numbered_blocks(phase, places)
    found = []
    for x, y in blocks:
        number = rule[blocks[(x, y)]]
        found += [(x + right, y + below) for at, (right, below) in enumerate(PLACES) if (number >> at) & 1 == 1]
    return tuple(sorted(found))


def is_place(value):
    """Return whether a value is a place of the grid."""
    return isinstance(value, tuple) and len(value) == 2 and is_whole(value[0]) and is_whole(value[1])


class Blocks:
    """A grid of blocks; a configuration is a tuple (phase, places)."""

    def __init__(self, values):
        if not is_rule(values):
            raise BadBlocks("the values are not the numbers 0 to 15 in some order, the first one 0")
        self.rule = values
        self._inverse = inverse_rule(values)

    def is_configuration(self, value):
        """Return whether a value is a configuration."""
        if not isinstance(value, tuple) or len(value) != 2:
            return False
        phase, places = value
        if not is_number(phase, 0, 1) or not isinstance(places, tuple):
            return False
        if not all([is_place(place) for place in places]):
            return False
        return all([one < two for one, two in zip(places, places[1:])])

    def step(self, configuration):
        """Return the configuration after one step."""
        phase, places = configuration
        return (1 - phase, replaced(self.rule, phase, places))

    def back(self, configuration):
        """Return the configuration before."""
        phase = 1 - configuration[0]
        return (phase, replaced(self._inverse, phase, configuration[1]))

    def run(self, configuration, steps):
        """Return the configuration after so many steps."""
        for _ in range(steps):
            configuration = self.step(configuration)
        return configuration

    def run_back(self, configuration, steps):
        """Return the configuration before so many steps."""
        for _ in range(steps):
            configuration = self.back(configuration)
        return configuration


def inverse_blocks(machine):
    """Return the machine with the inverse rule."""
    return Blocks(inverse_rule(machine.rule))


def balls():
    """Return the machine in which balls fly along diagonals, and part at right angles where they meet."""
    return Blocks((0, 8, 4, 3, 2, 5, 9, 7, 1, 6, 10, 11, 12, 13, 14, 15))


def many_balls(number):
    """Return the number of balls in a block."""
    return sum([(number >> at) & 1 for at in range(4)])


def keeps(machine):
    """Return whether every block has as many balls as its value."""
    return all([many_balls(number) == many_balls(value) for number, value in enumerate(machine.rule)])


def turned_about(configuration):
    """Return the configuration with the other phase."""
    phase, places = configuration
    return (1 - phase, places)
