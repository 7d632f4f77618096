"""[0.4], [0.5], [6.10] to [6.15]: ordinary machines as lines."""

import itertools
import unittest

from backstair.errors import BackError, BadParts
from backstair.flystair import FlyStair, past
from backstair.parts import Parts
from backstair.tape import Tape
from tests.cells import QUIET, full_rule, line_at, some_line, spread
from tests.oracle import all_tapes, rng_of, some_rows, some_tape, tape_of, tape_run

CLEARER = [None, (0, 1, 0)]
COUNTER = [(1, 1, 1), (0, -1, 0), None, (1, 1, 1)]
# The busy beaver of two states: both moves, and it forgets.
BEAVER = [(1, 1, 1), (1, -1, 1), (1, -1, 0), None]


def changes_told(machine):
    """Return the changes that [6.12] tells."""
    m, s = machine.marks, machine.states
    g = s * m + 1
    changes = {}

    def h(q, a):
        return m * (q + 1) + a

    for a in range(m):
        changes[(0, a, 0)] = (0, a, 0)
        for y in range(1, g):
            changes[(0, a, y)] = (y, a, 0)
        for q in range(s):
            changes[(q + 1, a, 0)] = (0, h(q, a), 0)
            if machine.row(q, a) is None:
                continue
            b, move, t = machine.row(q, a)
            y = 1 + m * q + a
            if move == 1:
                changes[(0, h(q, a), 0)] = (y, b, t + 1)
            else:
                changes[(0, h(q, a), 0)] = ((t + 1) * g + y, b, 0)
                for c in range(m):
                    changes[(0, c, (t + 1) * g + y)] = (y, h(t, c), 0)
    return changes


def meaning(machine, line):
    """Return the configuration that a line means by the words of [6.13], or None."""
    m, g = machine.marks, machine.states * machine.marks + 1
    heads = [("left", at) for at, cell in enumerate(line) if cell[0] >= g]
    heads += [("middle", at) for at, cell in enumerate(line) if cell[1] >= m]
    heads += [("right", at) for at, cell in enumerate(line) if cell[2] > 0]
    if len(heads) != 1 or heads[0][0] != "middle":
        return None
    place = heads[0][1]
    if any(cell[0] != 0 for cell in line[place + 1:]):
        return None
    tape = {at: cell[1] if at != place else cell[1] % m for at, cell in enumerate(line)}
    return (line[place][1] // m - 1,) + tape_of(tape, place)


def memories_told(machine, line):
    """Return the pairs of the memories in a line, from the right to the left."""
    g = machine.states * machine.marks + 1
    letters = [cell[0] - cell[0] // g * g for cell in line]
    pairs = [(q, a) for q in range(machine.states) for a in range(machine.marks)]
    return [pairs[y - 1] for y in reversed(letters) if y > 0]


def machines():
    """Return machines of many kinds, the greatest ones that fit among them."""
    rng = rng_of(141)
    found = [Tape(2, 1, list(rows)) for rows in itertools.product([None, (0, 1, 0), (1, -1, 0)], repeat=2)]
    found += [Tape(2, 2, COUNTER), Tape(2, 2, BEAVER), Tape(2, 2, [None] * 4)]
    for marks, states in [(2, 3), (3, 2), (4, 1), (2, 5), (3, 3), (5, 2), (8, 1), (8, 2)]:
        found.append(Tape(marks, states, some_rows(rng, marks, states)))
        found.append(Tape(marks, states, some_rows(rng, marks, states, 10 ** 9)))
    return found


def configurations(rng, machine, many=20):
    """Return some configurations of a machine."""
    return [(rng.randrange(machine.states),) + some_tape(rng, machine.marks) for _ in range(many)]


def product_of(marks, states):
    """Return the product of the sizes."""
    return (states + 1) * (states * marks + 1) * marks * (states + 1) * (states + 1)


class Lower(unittest.TestCase):
    def test_sizes_and_rule(self):
        for machine in machines():
            rows = machine.table()
            stair = FlyStair(machine)
            m, s = machine.marks, machine.states
            self.assertIs(stair.upper, machine)
            self.assertIsInstance(stair.lower, Parts)
            self.assertEqual(stair.lower.sizes, ((s + 1) * (s * m + 1), m * (s + 1), s + 1))
            changes = changes_told(machine)
            for triple, cell in changes.items():
                self.assertEqual(stair.lower.rule(triple), cell)
                self.assertEqual(stair.lower.source(cell), triple)
            if product_of(m, s) < 5000:
                for triple, cell in full_rule(stair.lower.sizes, changes).items():
                    self.assertEqual(stair.lower.rule(triple), cell)
            self.assertEqual(machine.table(), rows)

    def test_rule_written_out(self):
        # g is 3: the memories are 1 and 2, and the head on its way to the left is 3.
        rule = FlyStair(Tape(2, 1, [(1, -1, 0), (0, 1, 0)])).lower.rule
        for triple, cell in [((0, 0, 0), (0, 0, 0)), ((0, 1, 0), (0, 1, 0)), ((0, 0, 1), (1, 0, 0)), ((0, 1, 2), (2, 1, 0)),
                             ((1, 0, 0), (0, 2, 0)), ((1, 1, 0), (0, 3, 0)), ((0, 3, 0), (2, 0, 1)), ((0, 2, 0), (4, 1, 0)),
                             ((0, 0, 4), (1, 2, 0)), ((0, 1, 4), (1, 3, 0))]:
            self.assertEqual(rule(triple), cell)

    def test_sizes_that_would_be_too_great(self):
        just = []
        for marks in range(2, 9):
            for states in list(range(1, 15)) + [40]:
                machine = Tape(marks, states, [(0, 1, 0)] * (marks * states))
                if product_of(marks, states) > 40000:
                    with self.assertRaises(BadParts):
                        FlyStair(machine)
                elif product_of(marks, states + 1) > 40000:
                    just.append(machine)
        self.assertEqual([(machine.marks, machine.states) for machine in just][0], (2, 9))
        self.assertEqual(len(just), 7)
        for machine in just:
            stair = FlyStair(machine)
            for configuration in configurations(rng_of(142), machine, 5):
                self.assertEqual(stair.up(stair.down(configuration)), configuration)
        self.assertTrue(issubclass(BadParts, BackError))


class Down(unittest.TestCase):
    def test_down(self):
        rng = rng_of(143)
        for machine in machines():
            stair = FlyStair(machine)
            for state, left, mark, right in configurations(rng, machine):
                line = stair.down((state, left, mark, right))
                head = (0, machine.marks * (state + 1) + mark, 0)
                cells = [(0, a, 0) for a in left[::-1]] + [head] + [(0, a, 0) for a in right]
                self.assertEqual(line, line_at(spread(cells)))
                self.assertTrue(stair.lower.is_configuration(line))
                self.assertEqual(stair.up(line), (state, left, mark, right))
                self.assertEqual(stair.memories(line), [])

    def test_pace(self):
        for machine in machines():
            stair = FlyStair(machine)
            for state in range(machine.states):
                for mark in range(machine.marks):
                    expected = 0 if machine.row(state, mark) is None else 2
                    self.assertEqual(stair.pace((state, (1,), mark, ())), expected)


class Up(unittest.TestCase):
    def test_all_short_lines(self):
        machine = Tape(2, 1, [(1, -1, 0), (0, 1, 0)])
        stair = FlyStair(machine)
        cells = list(itertools.product(*[range(size) for size in stair.lower.sizes]))
        seen = 0
        for many in range(4):
            for line in itertools.product(cells, repeat=many):
                if stair.lower.is_configuration(line):
                    found = stair.up(line)
                    self.assertEqual(found, meaning(machine, line))
                    seen += found is not None
                    if many < 3:
                        self.assertEqual(stair.memories(line), memories_told(machine, line))
        self.assertGreater(seen, 100)

    def test_some_lines(self):
        rng = rng_of(144)
        for machine in machines():
            stair = FlyStair(machine)
            m, g = machine.marks, machine.states * machine.marks + 1
            for _ in range(60):
                # Mostly without right letters, heads and letters behind the head: lines that nearly mean something.
                cells = [(rng.randrange(g) if rng.randrange(2) else 0, rng.randrange(m), 0) for _ in range(7)]
                for _ in range(rng.choice((0, 1, 1, 1, 2))):
                    at = rng.randrange(7)
                    cells[at] = (cells[at][0], rng.randrange(m * (machine.states + 1)), 0)
                if rng.randrange(2):
                    at = rng.randrange(7)
                    cells[at + 1:] = [(0, cell[1], 0) for cell in cells[at + 1:]]
                line = line_at(spread(cells))
                self.assertEqual(stair.up(line), meaning(machine, line))
                self.assertEqual(stair.memories(line), memories_told(machine, line))
                line = some_line(rng, stair.lower.sizes)
                self.assertEqual(stair.up(line), meaning(machine, line))
                self.assertEqual(stair.memories(line), memories_told(machine, line))

    def test_written_out(self):
        # Two marks, one state: g is 3, a head stands on 0 as 2 and on 1 as 3, and is on its way as 3 and 1.
        stair = FlyStair(Tape(2, 1, [(1, -1, 0), (0, 1, 0)]))
        for line, configuration, memories in [
                (((0, 2, 0),), (0, (), 0, ()), []),
                (((1, 3, 0),), (0, (), 1, ()), [(0, 0)]),
                (((2, 0, 0), QUIET, (1, 1, 0), (2, 2, 0), (0, 1, 0)), (0, (1,), 0, (1,)), [(0, 1), (0, 0), (0, 1)]),
                (((2, 0, 0), QUIET, (0, 3, 0)), (0, (), 1, ()), [(0, 1)]),
                (((0, 3, 0), (1, 0, 0)), None, [(0, 0)]),
                (((0, 3, 0), QUIET, (0, 1, 0), (2, 1, 0)), None, [(0, 1)]),
                (((3, 0, 0),), None, []), (((4, 0, 0),), None, [(0, 0)]), (((5, 1, 0),), None, [(0, 1)]),
                (((5, 3, 0),), None, [(0, 1)]), (((3, 2, 0),), None, []), (((0, 0, 1),), None, []),
                (((0, 2, 1),), None, []), (((0, 0, 1), (0, 2, 0)), None, []), (((0, 2, 0), (0, 0, 1)), None, []),
                (((1, 0, 0), (0, 0, 1)), None, [(0, 0)]), (((5, 0, 0), (0, 2, 0)), None, [(0, 1)]),
                (((0, 2, 0), (0, 2, 0)), None, []), (((1, 2, 0), (2, 3, 0)), None, [(0, 1), (0, 0)]),
                (((0, 1, 0),), None, []), ((), None, []), (((2, 0, 0),), None, [(0, 1)])]:
            self.assertEqual(stair.up(line), configuration, line)
            self.assertEqual(stair.memories(line), memories, line)

    def test_what_comes_back_may_be_changed(self):
        stair = FlyStair(Tape(2, 1, CLEARER))
        line = stair.lower.run(stair.down((0, (), 1, (1,))), 4)
        stair.memories(line).clear()
        past(stair, line).clear()
        self.assertEqual(stair.memories(line), [(0, 1), (0, 1)])
        self.assertEqual(len(past(stair, line)), 3)


class Runs(unittest.TestCase):
    def test_whole_runs(self):
        rng = rng_of(145)
        long = 0
        for machine in machines():
            stair = FlyStair(machine)
            for configuration in configurations(rng, machine, 8):
                run = tape_run(machine, configuration, 15)
                begin = line = stair.down(configuration)
                for taken, upper in enumerate(run):
                    self.assertEqual(stair.up(line), upper)
                    pairs = [(before[0], before[2]) for before in run[:taken]]
                    self.assertEqual(stair.memories(line), pairs[::-1])
                    self.assertEqual(stair.lower.run_back(line, 2 * taken), begin)
                    self.assertEqual(past(stair, line), run[:taken + 1][::-1])
                    self.assertEqual(stair.pace(upper), 0 if machine.row(upper[0], upper[2]) is None else 2)
                    if taken + 1 < len(run):
                        line = stair.lower.step(line)
                        self.assertIsNone(stair.up(line))
                        line = stair.lower.step(line)
                long += len(run)
        self.assertGreater(long, 1000)

    def test_all_small_configurations(self):
        for machine in [Tape(2, 2, BEAVER), Tape(2, 1, [(1, -1, 0), (0, 1, 0)]), Tape(2, 2, COUNTER)]:
            stair = FlyStair(machine)
            for state in range(machine.states):
                for tape in all_tapes(2, 2):
                    run = tape_run(machine, (state,) + tape, 6)
                    line = stair.lower.run(stair.down(run[0]), 2 * len(run) - 2)
                    self.assertEqual(stair.up(line), run[-1])
                    self.assertEqual(past(stair, line), run[::-1])

    def test_written_out(self):
        stair = FlyStair(Tape(2, 1, CLEARER))
        line = stair.down((0, (), 1, (1,)))
        lines = [((0, 3, 0), (0, 1, 0)), ((2, 0, 1), (0, 1, 0)), ((2, 0, 0), QUIET, (0, 3, 0)),
                 ((2, 0, 0), QUIET, QUIET, (2, 0, 1)), ((2, 0, 0), QUIET, QUIET, (2, 0, 0), QUIET, (0, 2, 0))]
        for steps, expected in enumerate(lines):
            self.assertEqual(stair.lower.run(line, steps), expected)
        stair = FlyStair(Tape(2, 1, [(1, -1, 0), None]))
        line = stair.down((0, (1,), 0, ()))
        lines = [((0, 1, 0), (0, 2, 0)), ((0, 1, 0), (4, 1, 0)), ((1, 3, 0), (0, 1, 0))]
        for steps, expected in enumerate(lines):
            self.assertEqual(stair.lower.run(line, steps), expected)

    def test_a_long_run(self):
        machine = Tape(2, 2, [(1, 1, 1), (1, -1, 1), (1, -1, 0), (0, 1, 0)])
        stair = FlyStair(machine)
        configuration = (0, (), 0, ())
        run = tape_run(machine, configuration, 150)
        line = stair.lower.run(stair.down(configuration), 300)
        self.assertEqual(stair.up(line), run[-1])
        self.assertEqual(past(stair, line), run[::-1])


class Past(unittest.TestCase):
    def test_without_a_memory(self):
        rng = rng_of(146)
        for machine in machines():
            stair = FlyStair(machine)
            for configuration in configurations(rng, machine, 3):
                self.assertEqual(past(stair, stair.down(configuration)), [configuration])

    def test_lines_that_mean_nothing(self):
        stair = FlyStair(Tape(2, 1, [(1, -1, 0), (0, 1, 0)]))
        for line in [(), ((0, 1, 0),), ((0, 2, 0), (0, 2, 0)), ((4, 0, 0),), ((0, 0, 1),), ((1, 0, 0),), ((0, 3, 0), (1, 0, 0)),
                     ((0, 2, 1),), stair.lower.step(stair.down((0, (), 1, ())))]:
            with self.assertRaises(BadParts):
                past(stair, line)

    def test_memories_of_no_run(self):
        # The line means a configuration, but not one that the machine came to in this way.
        stair = FlyStair(Tape(2, 1, CLEARER))
        for line in [((1, 2, 0),), ((2, 2, 0),), ((2, 0, 0), (0, 2, 0)), ((1, 0, 0), QUIET, (0, 2, 0)),
                     ((2, 0, 0), (2, 0, 0), QUIET, (0, 2, 0)), ((2, 0, 0), QUIET, QUIET, QUIET, (0, 2, 0))]:
            self.assertIsNotNone(stair.up(line))
            with self.assertRaises(BadParts):
                past(stair, line)

    def test_by_the_words(self):
        rng = rng_of(147)
        kinds = set()
        for machine in machines()[:12]:
            stair = FlyStair(machine)
            g = machine.states * machine.marks + 1
            for _ in range(60):
                cells = [(rng.randrange(g) if rng.randrange(3) == 0 else 0, rng.randrange(machine.marks), 0) for _ in range(4)]
                cells.append((0, rng.randrange(machine.marks * (machine.states + 1)), 0))
                line = line_at(spread(cells))
                expected = []
                for many in range(len(memories_told(machine, line)) + 1):
                    expected.append(meaning(machine, stair.lower.run_back(line, 2 * many)))
                kinds.add((None in expected, len(expected)))
                if None in expected:
                    with self.assertRaises(BadParts):
                        past(stair, line)
                else:
                    self.assertEqual(past(stair, line), expected)
        self.assertIn((False, 2), kinds)
