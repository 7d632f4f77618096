"""[0.3] to [0.5], [6.7] to [6.9]: machines of one tape that go both ways, as lines."""

import itertools
import unittest

from backstair.errors import BackError, BadParts, Clash
from backstair.inverse import clash
from backstair.parts import Parts
from backstair.partstair import PartStair
from backstair.plain import plain
from backstair.several import Several
from backstair.tape import Tape
from tests.cells import QUIET, full_rule, line_at, spread
from tests.oracle import all_tapes, clash_backwards, first_pair, rng_of, several_step, some_several_rows, some_tape

TURNER = [("write", 0, (1,), (2,), 1), ("write", 0, (2,), (1,), 1), ("move", 1, (1,), 0), ("write", 0, (0,), (0,), 2)]
# Goes left and right, and stays: each kind of row.
WALKER = [("write", 0, (0,), (1,), 1), ("write", 0, (1,), (0,), 1), ("move", 1, (-1,), 2), ("move", 2, (0,), 3),
          ("write", 3, (1,), (1,), 4), ("move", 4, (1,), 5), ("write", 3, (0,), (0,), 6)]


def changes_told(machine):
    """Return the changes that [6.8] tells."""
    m = machine.marks
    changes = {(0, a, 0): (0, a, 0) for a in range(m)}

    def h(q, a):
        return m * (q + 1) + a

    for row in machine.table():
        if row[0] == "write":
            _, q, (a,), (b,), t = row
            changes[(0, h(q, a), 0)] = (0, h(t, b), 0)
            continue
        _, q, (move,), t = row
        for a in range(m):
            if move == 0:
                changes[(0, h(q, a), 0)] = (0, h(t, a), 0)
            elif move == 1:
                changes[(0, h(q, a), 0)] = (0, a, t + 1)
                changes[(t + 1, a, 0)] = (0, h(t, a), 0)
            else:
                changes[(0, h(q, a), 0)] = (t + 1, a, 0)
                changes[(0, a, t + 1)] = (0, h(t, a), 0)
    return changes


def line_told(marks, configuration):
    """Return the line that [6.9] tells."""
    q, ((left, mark, right),) = configuration
    cells = [(0, a, 0) for a in reversed(left)] + [(0, marks * (q + 1) + mark, 0)] + [(0, a, 0) for a in right]
    return line_at(spread(cells))


def machines():
    """Return machines of one tape that go both ways."""
    rng = rng_of(131)
    found = [Several(1, 3, 3, TURNER), Several(1, 2, 7, WALKER), Several(1, 2, 1, []), plain(Tape(2, 1, [None, (0, 1, 0)])),
             Several(1, 2, 1, [("move", 0, (1,), 0)]), Several(1, 2, 1, [("move", 0, (0,), 0)]),
             Several(1, 2, 2, [("move", 0, (-1,), 1), ("move", 1, (1,), 0)]), Several(1, 400, 1, [("write", 0, (399,), (1,), 0)])]
    for marks, states in [(2, 2), (2, 4), (3, 3), (4, 5), (2, 9), (8, 2)]:
        for tries in (5, 40):
            found.append(Several(1, marks, states, some_several_rows(rng, 1, marks, states, tries, True)))
    return found


def configurations(rng, machine, many=40):
    """Return some configurations of a machine."""
    return [(rng.randrange(machine.states), (some_tape(rng, machine.marks),)) for _ in range(many)]


class Lower(unittest.TestCase):
    def test_sizes_and_rule(self):
        for machine in machines():
            rows = machine.table()
            stair = PartStair(machine)
            m, s = machine.marks, machine.states
            self.assertIs(stair.upper, machine)
            self.assertIsInstance(stair.lower, Parts)
            self.assertEqual(stair.lower.sizes, (s + 1, m * (s + 1), s + 1))
            changes = changes_told(machine)
            for triple, cell in changes.items():
                self.assertEqual(stair.lower.rule(triple), cell)
                self.assertEqual(stair.lower.source(cell), triple)
            if m * (s + 1) ** 3 < 2000:
                for triple, cell in full_rule(stair.lower.sizes, changes).items():
                    self.assertEqual(stair.lower.rule(triple), cell)
            self.assertEqual(machine.table(), rows)

    def test_rule_written_out(self):
        rule = PartStair(Several(1, 3, 3, TURNER)).lower.rule
        for triple, cell in [((0, 0, 0), (0, 0, 0)), ((0, 2, 0), (0, 2, 0)), ((0, 4, 0), (0, 8, 0)), ((0, 5, 0), (0, 7, 0)),
                             ((0, 3, 0), (0, 9, 0)), ((0, 6, 0), (0, 0, 1)), ((0, 8, 0), (0, 2, 1)), ((1, 0, 0), (0, 3, 0)),
                             ((1, 2, 0), (0, 5, 0))]:
            self.assertEqual(rule(triple), cell)
        rule = PartStair(Several(1, 2, 7, WALKER)).lower.rule
        for triple, cell in [((0, 4, 0), (3, 0, 0)), ((0, 5, 0), (3, 1, 0)), ((0, 0, 3), (0, 6, 0)), ((0, 1, 3), (0, 7, 0)),
                             ((0, 6, 0), (0, 8, 0)), ((0, 7, 0), (0, 9, 0)), ((0, 10, 0), (0, 0, 6)), ((6, 1, 0), (0, 13, 0))]:
            self.assertEqual(rule(triple), cell)


class NoStairs(unittest.TestCase):
    def test_several_tapes(self):
        for tapes in (2, 3, 4):
            zeros, ones = (0,) * tapes, (1,) * tapes
            for rows in [[], [("move", 0, ones, 0)], [("write", 0, zeros, ones, 0)],
                         [("write", 0, zeros, ones, 0), ("write", 0, ones, ones, 0)]]:
                with self.assertRaises(BadParts):
                    PartStair(Several(tapes, 2, 1, rows))
        self.assertTrue(issubclass(BadParts, BackError))

    def test_sizes(self):
        clashing = [("write", 0, (0,), (0,), 0), ("write", 0, (1,), (0,), 0)]
        for marks in (2, 3, 5, 8, 40, 41, 400):
            for states in (1, 2, 3, 4, 5, 8, 9, 16, 17, 26, 27, 100, 5000):
                for rows in [[], clashing]:
                    machine = Several(1, marks, states, rows)
                    if marks * (states + 1) ** 3 > 40000:
                        with self.assertRaises(BadParts):
                            PartStair(machine)
                    elif rows:
                        with self.assertRaises(Clash):
                            PartStair(machine)
                    else:
                        self.assertEqual(PartStair(machine).lower.sizes, (states + 1, marks * (states + 1), states + 1))

    def test_just_not_too_great(self):
        # 2 * 27 ** 3 and 5 * 20 ** 3 cells; the latter is 40000.
        rng = rng_of(132)
        for marks, states in [(2, 26), (5, 19), (40, 9)]:
            machine = Several(1, marks, states, some_several_rows(rng, 1, marks, states, 200, True))
            stair = PartStair(machine)
            for configuration in configurations(rng, machine):
                self.assertEqual(stair.up(stair.down(configuration)), configuration)
            bigger = Several(1, marks, states + 1, machine.table())
            with self.assertRaises(BadParts):
                PartStair(bigger)

    def test_clash(self):
        rng = rng_of(133)
        found = 0
        for _ in range(200):
            marks, states = rng.randrange(2, 5), rng.randrange(1, 5)
            machine = Several(1, marks, states, some_several_rows(rng, 1, marks, states, 8, False))
            pair = first_pair(machine.table(), clash_backwards)
            if pair is None:
                PartStair(machine)
                continue
            found += 1
            with self.assertRaises(Clash) as caught:
                PartStair(machine)
            self.assertEqual((caught.exception.first, caught.exception.second), pair)
            self.assertEqual(clash(machine), pair)
        self.assertGreater(found, 50)


class Steps(unittest.TestCase):
    def check(self, machine, stair, configuration):
        """Compare a step of the machine with those of its line, forwards and backwards."""
        line = stair.down(configuration)
        self.assertEqual(line, line_told(machine.marks, configuration))
        self.assertTrue(stair.lower.is_configuration(line))
        self.assertEqual(stair.up(line), configuration)
        at, after = several_step(machine.table(), configuration)
        if after is None:
            self.assertEqual(stair.pace(configuration), 0)
            return
        row = machine.table()[at]
        pace = 2 if row[0] == "move" and row[2] != (0,) else 1
        self.assertEqual(stair.pace(configuration), pace)
        there = stair.down(after)
        self.assertEqual(stair.lower.run(line, pace), there)
        self.assertEqual(stair.lower.run_back(there, pace), line)
        if pace == 2:
            between = stair.lower.step(line)
            self.assertIsNone(stair.up(between))
            self.assertEqual(stair.lower.back(there), between)

    def test_all_small_configurations(self):
        for machine in machines()[:7]:
            stair = PartStair(machine)
            for tape in all_tapes(machine.marks, 2):
                for state in range(machine.states):
                    self.check(machine, stair, (state, (tape,)))

    def test_some_configurations(self):
        rng = rng_of(134)
        for machine in machines():
            stair = PartStair(machine)
            for configuration in configurations(rng, machine):
                self.check(machine, stair, configuration)

    def test_whole_runs(self):
        rng = rng_of(135)
        moved = 0
        for machine in machines():
            stair = PartStair(machine)
            for configuration in configurations(rng, machine, 6):
                begin = line = stair.down(configuration)
                steps = 0
                for _ in range(25):
                    pace = stair.pace(configuration)
                    if pace == 0:
                        break
                    for _ in range(pace):
                        line = stair.lower.step(line)
                        steps += 1
                    configuration = machine.step(configuration)
                    self.assertEqual(stair.up(line), configuration)
                    self.assertEqual(line, stair.down(configuration))
                moved += steps
                self.assertEqual(stair.lower.run_back(line, steps), begin)
        self.assertGreater(moved, 500)

    def test_example(self):
        # The run of [2.15], as a line.
        machine = Several(1, 3, 3, TURNER)
        stair = PartStair(machine)
        line = stair.down(machine.begin(((1, 2),)))
        self.assertEqual(line, ((0, 4, 0), (0, 2, 0)))
        self.assertEqual(stair.lower.run(line, 1), ((0, 8, 0), (0, 2, 0)))
        self.assertEqual(stair.lower.run(line, 2), ((0, 2, 1), (0, 2, 0)))
        self.assertEqual(stair.lower.run(line, 3), ((0, 2, 0), (0, 5, 0)))
        self.assertEqual(stair.lower.run(line, 7), ((0, 2, 0), (0, 1, 0), (0, 9, 0)))
        self.assertEqual(stair.up(stair.lower.run(line, 7)), (2, (((1, 2), 0, ()),)))
        self.assertEqual(stair.pace((2, (((1, 2), 0, ()),))), 0)


class Up(unittest.TestCase):
    def test_all_short_lines(self):
        for machine in [Several(1, 2, 1, [("move", 0, (1,), 0)]), Several(1, 2, 2, [("move", 0, (-1,), 1)])]:
            stair = PartStair(machine)
            known = {}
            for state in range(machine.states):
                for tape in all_tapes(2, 3):
                    known[line_told(2, (state, (tape,)))] = (state, (tape,))
            cells = list(itertools.product(*[range(size) for size in stair.lower.sizes]))
            seen = 0
            for many in range(4 if machine.states == 1 else 3):
                for line in itertools.product(cells, repeat=many):
                    if stair.lower.is_configuration(line):
                        self.assertEqual(stair.up(line), known.get(line))
                        seen += line in known
            self.assertGreater(seen, 10)

    def test_written_out(self):
        stair = PartStair(Several(1, 2, 2, [("move", 0, (-1,), 1)]))
        for line, configuration in [
                (((0, 2, 0),), (0, (((), 0, ()),))), (((0, 5, 0),), (1, (((), 1, ()),))),
                (((0, 1, 0), QUIET, (0, 3, 0), QUIET, QUIET, (0, 1, 0)), (0, (((0, 1), 1, (0, 0, 1)),))),
                ((), None), (((0, 1, 0),), None), (((0, 2, 0), (0, 2, 0)), None), (((0, 2, 0), QUIET, (0, 5, 0)), None),
                (((1, 1, 0),), None), (((0, 1, 2),), None), (((0, 1, 0), (2, 0, 0)), None), (((1, 2, 0),), None),
                (((0, 2, 1),), None), (((0, 2, 0), (1, 0, 0)), None), (((0, 0, 1), (0, 2, 0)), None),
                (((2, 0, 0), (0, 2, 0)), None), (((0, 2, 0), (0, 0, 2)), None), (((1, 0, 0),), None)]:
            self.assertEqual(stair.up(line), configuration, line)
