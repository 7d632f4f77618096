"""Lines of cells in parts, whose steps can be undone."""

from backstair.errors import BadParts
from backstair.kinds import are_numbers, is_number

QUIET = (0, 0, 0)
MOST_CELLS = 40000


def is_sizes(value):
    """Return whether a value is a tuple of three sizes with a product that is not too great."""
    if not are_numbers(value, 1, MOST_CELLS) or len(value) != 3:
        return False
    return value[0] * value[1] * value[2] <= MOST_CELLS


def is_triple(value, sizes):
    """Return whether a value is a tuple of one letter for each of three sizes."""
    if not isinstance(value, tuple) or len(value) != 3:
        return False
    return all([is_number(letter, 0, size - 1) for letter, size in zip(value, sizes)])


def all_triples(sizes):
    """Return all triples of letters of these sizes, in ascending order."""
    first, second, third = sizes
    return [(one, two, three) for one in range(first) for two in range(second) for three in range(third)]


def whole_rule(sizes, changes):
    """Return the dict of the rule that is made from the changes."""
    given = {changes[triple]: True for triple in changes}
    if len(given) < len(changes):
        raise BadParts("a value occurs twice")
    rule = {triple: changes[triple] for triple in changes}
    triples = [triple for triple in all_triples(sizes[::-1]) if triple not in changes]
    cells = [cell for cell in all_triples(sizes) if cell not in given]
    for triple, cell in zip(triples, cells):
        rule[triple] = cell
    return rule


def gathered(line):
    """Return the list of the triples that the cells gather, from one place before a line to one behind it."""
    wide = (QUIET, QUIET) + line + (QUIET, QUIET)
    return [(one[2], two[1], three[0]) for one, two, three in zip(wide, wide[1:], wide[2:])]


def stripped(cells):
    """Return the tuple of the cells from the first one that is not quiet to the last one."""
    low = 0
    high = len(cells)
    while low < high and cells[low] == QUIET:
        low += 1
    while low < high and cells[high - 1] == QUIET:
        high -= 1
    return tuple(cells[low:high])


class Parts:
    """A line of cells (left, middle, right), each of which is replaced by a rule for what it gathers."""

    def __init__(self, sizes, changes):
        if not is_sizes(sizes):
            raise BadParts("the sizes are not three numbers with a product of at most 40000")
        if not isinstance(changes, dict):
            raise BadParts("the changes are not a dict")
        for triple in changes:
            if not is_triple(triple, sizes[::-1]) or not is_triple(changes[triple], sizes):
                raise BadParts("a change does not lead from a triple to a cell")
        if changes.get(QUIET) != QUIET:
            raise BadParts("what is quiet does not stay so")
        self.sizes = sizes
        self._rule = whole_rule(sizes, changes)
        self._source = {self._rule[triple]: triple for triple in self._rule}

    def rule(self, triple):
        """Return the cell by which a gathered triple is replaced."""
        return self._rule[triple]

    def source(self, cell):
        """Return the gathered triple that is replaced by a cell."""
        return self._source[cell]

    def is_configuration(self, value):
        """Return whether a value is a configuration of this machine."""
        if not isinstance(value, tuple) or not all([is_triple(cell, self.sizes) for cell in value]):
            return False
        return value == () or (value[0] != QUIET and value[-1] != QUIET)

    def step(self, configuration):
        """Return the configuration after one step."""
        return stripped([self._rule[triple] for triple in gathered(configuration)])

    def back(self, configuration):
        """Return the configuration before."""
        # A triple says what its neighbours' parts were, so these are gathered in the same way.
        return stripped(gathered(tuple([self._source[cell] for cell in configuration])))

    def run(self, configuration, steps):
        """Return the configuration after so many steps."""
        for _ in range(steps):
            configuration = self.step(configuration)
        return configuration

    def run_back(self, configuration, steps):
        """Return the configuration before so many steps."""
        for _ in range(steps):
            configuration = self.back(configuration)
        return configuration

    def rows(self, configuration, steps):
        """Return the list of the rows of a run, all from the same place and of the same length."""
        margin = (QUIET,) * steps
        row = margin + configuration + margin
        found = [row]
        for _ in range(steps):
            row = tuple([self._rule[triple] for triple in gathered(row)[1:-1]])
            found.append(row)
        return found
