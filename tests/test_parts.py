"""[0.3], [0.5], [6.1] to [6.6]: lines of cells in parts."""

import itertools
import unittest

from backstair.errors import BackError, BadParts
from backstair.parts import Parts
from tests.cells import QUIET, full_rule, line_at, some_changes, some_line, spread, step_line, step_places
from tests.oracle import ODD, rng_of

STILL = {QUIET: QUIET}
SIZES = [(1, 1, 1), (1, 2, 1), (2, 1, 1), (1, 1, 2), (2, 1, 2), (1, 2, 3), (3, 2, 1), (2, 3, 2), (3, 4, 5), (4, 3, 2)]
# What is no triple of letters 0 to 1, 0 to 2 and 0 to 3, nor one of letters 0 to 3, 0 to 2 and 0 to 1.
NO_TRIPLES = [odd for odd in ODD if odd not in ({}, [], [0], [1], {0: 1})] + [
    (0, 0), (0,), (0, 0, 0, 0), (4, 0, 0), (0, 3, 0), (0, 0, 4), (-1, 0, 0), (0, -1, 0), (0, 0, -1), (True, 0, 0),
    (0, True, 0), (0, 0, True), (False, 0, 1), (0, False, 1), (1, 0, False), (None, 0, 0), ("0", 0, 0), (0, 0, "1"),
    (0, 1.0, 0), ((0,), 0, 0), (10 ** 30, 0, 0), "000", b"\x00\x00\x00"]


def machines():
    """Return pairs of a machine and the dict of its rule."""
    rng = rng_of(121)
    found = []
    for sizes in SIZES:
        for many in (0, 1, 3, 10 ** 6):
            changes = some_changes(rng, sizes, many)
            found.append((Parts(sizes, changes), full_rule(sizes, changes)))
    return found


def all_triples(sizes):
    """Return all cells of these sizes, in ascending order."""
    return list(itertools.product(*[range(size) for size in sizes]))


class Rules(unittest.TestCase):
    def check(self, sizes, changes):
        """Compare the whole rule with the model."""
        passed = dict(changes)
        machine = Parts(sizes, changes)
        self.assertEqual(changes, passed)
        self.assertEqual(machine.sizes, sizes)
        rule = full_rule(sizes, changes)
        self.assertEqual(len(rule), sizes[0] * sizes[1] * sizes[2])
        self.assertEqual(sorted(rule.values()), all_triples(sizes))
        for triple, cell in rule.items():
            self.assertEqual(machine.rule(triple), cell)
            self.assertEqual(machine.source(cell), triple)
        return machine

    def test_written_out(self):
        machine = self.check((2, 1, 2), STILL)
        # In ascending order: with unlike sizes, triples and cells are counted differently.
        for triple in all_triples((2, 1, 2)):
            self.assertEqual(machine.rule(triple), triple)
        machine = self.check((3, 1, 2), STILL)
        self.assertEqual([machine.rule(triple) for triple in [(0, 0, 1), (0, 0, 2), (1, 0, 0), (1, 0, 1), (1, 0, 2)]],
                         [(0, 0, 1), (1, 0, 0), (1, 0, 1), (2, 0, 0), (2, 0, 1)])
        machine = self.check((2, 1, 2), {QUIET: QUIET, (1, 0, 0): (0, 0, 1), (0, 0, 1): (1, 0, 0)})
        self.assertEqual(machine.rule((1, 0, 1)), (1, 0, 1))
        machine = self.check((1, 3, 2), {QUIET: QUIET, (0, 1, 0): (0, 2, 1)})
        self.assertEqual([machine.rule(triple) for triple in [(0, 2, 0), (1, 0, 0), (1, 1, 0), (1, 2, 0)]],
                         [(0, 0, 1), (0, 1, 0), (0, 1, 1), (0, 2, 0)])

    def test_all_rules_of_small_sizes(self):
        for sizes in [(1, 1, 1), (1, 3, 1), (3, 1, 1), (1, 1, 3), (2, 2, 1), (1, 2, 2), (2, 1, 2)]:
            keys, values = all_triples(sizes[::-1])[1:], all_triples(sizes)[1:]
            for many in range(min(3, len(keys)) + 1):
                for some in itertools.combinations(keys, many):
                    for others in itertools.permutations(values, many):
                        self.check(sizes, {QUIET: QUIET, **dict(zip(some, others))})

    def test_some_rules(self):
        rng = rng_of(122)
        for sizes in SIZES:
            for many in (0, 1, 2, 5, 20, 10 ** 6):
                self.check(sizes, some_changes(rng, sizes, many))

    def test_order_of_the_keys(self):
        rng = rng_of(123)
        changes = some_changes(rng, (3, 4, 2), 9)
        for _ in range(5):
            order = list(changes)
            rng.shuffle(order)
            self.check((3, 4, 2), {key: changes[key] for key in order})

    def test_greatest(self):
        rng = rng_of(124)
        for sizes in [(40000, 1, 1), (1, 40000, 1), (1, 1, 40000), (20, 100, 20), (200, 2, 100), (1, 200, 200), (32, 50, 25)]:
            for many in (0, 50):
                self.check(sizes, some_changes(rng, sizes, many))
        machine = self.check((20, 100, 20), some_changes(rng, (20, 100, 20), 10 ** 6))
        line = some_line(rng, (20, 100, 20), 40)
        self.assertEqual(machine.run_back(machine.run(line, 30), 30), line)

    def test_the_dict_may_be_changed(self):
        changes = {QUIET: QUIET, (0, 1, 0): (0, 0, 1)}
        machine = Parts((2, 2, 2), changes)
        changes[(0, 1, 0)] = (1, 1, 1)
        changes[(1, 1, 1)] = (0, 0, 1)
        del changes[QUIET]
        self.assertEqual(machine.rule((0, 1, 0)), (0, 0, 1))
        self.assertEqual(machine.source((0, 0, 1)), (0, 1, 0))
        self.assertEqual(machine.rule(QUIET), QUIET)
        self.assertEqual(machine.rule((1, 1, 1)), (1, 1, 1))


class NoParts(unittest.TestCase):
    def refused(self, sizes, changes):
        """Look that there is no such machine."""
        with self.assertRaises(BadParts, msg=repr((sizes, changes))):
            Parts(sizes, changes)

    def test_sizes(self):
        for wrong in ODD + [(), (1, 1), (1, 1, 1, 1), [1, 1, 1], [2, 2, 2], (0, 1, 1), (1, 0, 1), (1, 1, 0), (-1, 1, -1),
                            (-1, -1, 1), (True, 1, 1), (1, True, 1), (1, 1, True), (False, 1, 1), (None, 1, 1), (1, "1", 1),
                            (1, 1.0, 1), ((1,), 1, 1), "111", {0: 1, 1: 1, 2: 1}, (40001, 1, 1), (1, 40001, 1), (1, 1, 40001),
                            (2, 20001, 1), (200, 201, 1), (1, 201, 200), (35, 35, 35), (10 ** 20, 10 ** 20, 1),
                            (10 ** 30, 1, 0)]:
            self.refused(wrong, dict(STILL))
        for right in [(1, 1, 1), (40000, 1, 1), (34, 34, 34), (200, 1, 200), (1, 20000, 2)]:
            self.assertEqual(Parts(right, dict(STILL)).sizes, right)

    def test_keys(self):
        for wrong in NO_TRIPLES:
            self.refused((2, 3, 4), {QUIET: QUIET, wrong: (1, 1, 1)})
            self.refused((2, 3, 4), {wrong: (1, 1, 1), QUIET: QUIET})
        # The first item of a key is a letter of a right part, the last one of a left part.
        for key in [(0, 0, 2), (0, 0, 3), (3, 2, 2)]:
            self.refused((2, 3, 4), {QUIET: QUIET, key: (1, 1, 1)})
            self.assertEqual(Parts((4, 3, 4), {QUIET: QUIET, key: (1, 1, 1)}).rule(key), (1, 1, 1))
        for key in [(2, 0, 0), (3, 0, 0), (3, 2, 1)]:
            self.assertEqual(Parts((2, 3, 4), {QUIET: QUIET, key: (1, 1, 1)}).rule(key), (1, 1, 1))

    def test_values(self):
        for wrong in NO_TRIPLES + [[0, 0, 1], [], {}, [1, 1, 1]]:
            self.refused((2, 3, 4), {QUIET: QUIET, (1, 1, 1): wrong})
        for value in [(2, 0, 0), (3, 0, 0), (2, 2, 3)]:
            self.refused((2, 3, 4), {QUIET: QUIET, (1, 1, 1): value})
        for value in [(0, 0, 2), (0, 0, 3), (1, 2, 3)]:
            self.assertEqual(Parts((2, 3, 4), {QUIET: QUIET, (1, 1, 1): value}).rule((1, 1, 1)), value)

    def test_what_is_quiet(self):
        for wrong in [{}, {(0, 1, 0): (0, 1, 0)}, {QUIET: (0, 1, 0)}, {QUIET: (0, 0, 1), (0, 0, 1): QUIET},
                      {(0, 1, 0): QUIET}, {(0, 1, 0): QUIET, QUIET: (0, 1, 0)}, {QUIET: None}, {QUIET: [0, 0, 0]},
                      {QUIET: (0, 0, False)}, {(0, False, 0): QUIET}, {QUIET: (0, 0)}, {QUIET: 0}]:
            self.refused((2, 2, 2), wrong)

    def test_values_that_occur_twice(self):
        self.refused((2, 2, 2), {QUIET: QUIET, (0, 1, 0): QUIET})
        self.refused((2, 2, 2), {QUIET: QUIET, (0, 1, 0): (1, 1, 1), (1, 0, 0): (1, 1, 1)})
        rng = rng_of(125)
        for sizes in [(2, 2, 2), (3, 4, 5), (1, 2, 3)]:
            changes = some_changes(rng, sizes, 10 ** 6)
            for one, two in [rng.sample(sorted(changes), 2) for _ in range(20)]:
                self.refused(sizes, {**changes, one: changes[two]})

    def test_no_dicts(self):
        for wrong in [None, (), [], [(QUIET, QUIET)], ((QUIET, QUIET),), 0, "", {QUIET}, True]:
            self.refused((2, 2, 2), wrong)

    def test_the_error(self):
        self.assertTrue(issubclass(BadParts, BackError))


class Configurations(unittest.TestCase):
    def test_all_short_lines(self):
        for sizes in [(1, 1, 1), (2, 1, 1), (1, 2, 1), (1, 1, 2), (2, 2, 1)]:
            machine = Parts(sizes, dict(STILL))
            for many in range(5):
                for line in itertools.product(all_triples(sizes), repeat=many):
                    self.assertEqual(machine.is_configuration(line), line == line_at(spread(line)))

    def test_others(self):
        machine = Parts((2, 3, 4), dict(STILL))
        for right in [(), ((1, 2, 3),), ((0, 0, 1), QUIET, QUIET, (1, 0, 0)), ((0, 2, 0),) * 1000]:
            self.assertIs(machine.is_configuration(right), True)
        for wrong in [odd for odd in ODD if odd != ()] + [
                (QUIET,), (QUIET, (1, 0, 0)), ((1, 0, 0), QUIET), (QUIET,) * 5, ((1, 0, 0), (2, 0, 0)), ((0, 3, 0),),
                ((0, 0, 4),), ((-1, 0, 0),), ((0, -1, 0),), ((1, 0, 0), (True, 0, 0)), ((0, True, 0),), ((1, False, 0),),
                ((1, 0, None),), [(1, 0, 0)], [], ([1, 0, 0],), ((1, 0, 0), [1, 0, 0]), ((1, 0),), ((1, 0, 0), (1, 0)),
                ((1, 0, 0, 0),), ((1, 0, 0), ()), ((1, 0, 0), None), ((1, 0, 0), 5), (1, 0, 0), ((1, 0, "0"),), ("100",),
                ((1, 0, 0), (1.0, 0, 0)), {(1, 0, 0): 1}, (((1,), 0, 0),), ((10 ** 30, 0, 0),)]:
            self.assertIs(machine.is_configuration(wrong), False, repr(wrong))


class Steps(unittest.TestCase):
    def test_written_out(self):
        # A letter in a right part goes to the right, one in a left part to the left, one in a middle part stays.
        still = {(x, y, z): (z, y, x) for x in range(2) for y in range(2) for z in range(2)}
        machine = Parts((2, 2, 2), still)
        self.assertEqual(machine.step(((0, 0, 1),)), ((0, 0, 1),))
        self.assertEqual(machine.step(((0, 1, 1),)), ((0, 1, 0), (0, 0, 1)))
        self.assertEqual(machine.step(((1, 1, 0),)), ((1, 0, 0), (0, 1, 0)))
        self.assertEqual(machine.step(((1, 1, 1),)), ((1, 0, 0), (0, 1, 0), (0, 0, 1)))
        self.assertEqual(machine.back(((1, 0, 0), (0, 1, 0), (0, 0, 1))), ((1, 1, 1),))
        self.assertEqual(machine.back(((1, 1, 1),)), ((0, 0, 1), (0, 1, 0), (1, 0, 0)))
        self.assertEqual(machine.run(((0, 1, 1),), 5), ((0, 1, 0),) + (QUIET,) * 4 + ((0, 0, 1),))
        self.assertEqual(machine.run_back(((0, 1, 1),), 3), ((0, 0, 1), QUIET, QUIET, (0, 1, 0)))
        self.assertEqual(machine.step(((0, 0, 1), QUIET, (1, 0, 0))), ((1, 0, 1),))
        self.assertEqual(machine.step(((0, 0, 1), (1, 0, 0))), ((1, 0, 0), (0, 0, 1)))

    def test_against_the_model(self):
        rng = rng_of(126)
        for machine, rule in machines():
            for _ in range(25):
                line = some_line(rng, machine.sizes)
                after = machine.step(line)
                self.assertEqual(after, step_line(rule, line))
                self.assertTrue(machine.is_configuration(after))
                self.assertTrue(machine.is_configuration(machine.back(line)))
                self.assertEqual(machine.back(after), line)
                self.assertEqual(machine.step(machine.back(line)), line)
                self.assertEqual(step_line(rule, machine.back(line)), line)

    def test_all_short_lines(self):
        for sizes in [(2, 1, 2), (1, 2, 2), (2, 2, 1)]:
            machine = Parts(sizes, some_changes(rng_of(127), sizes, 10 ** 6))
            lines = {line_at(spread(line)) for line in itertools.product(all_triples(sizes), repeat=4)}
            there = {machine.step(line) for line in lines}
            self.assertEqual(len(there), len(lines))
            self.assertEqual({machine.back(line) for line in there}, lines)

    def test_runs(self):
        rng = rng_of(128)
        for machine, rule in machines():
            line = some_line(rng, machine.sizes)
            run = [line]
            for steps in range(9):
                self.assertEqual(machine.run(line, steps), run[-1])
                self.assertEqual(machine.run_back(run[-1], steps), line)
                before = machine.run_back(line, steps)
                self.assertIsInstance(before, tuple)
                self.assertEqual(machine.run(before, steps), line)
                run.append(step_line(rule, run[-1]))

    def test_lines_that_grow_at_both_ends(self):
        moving = {(x, y, z): (z, y, x) for x in range(2) for y in range(2) for z in range(2)}
        machine = Parts((2, 2, 2), moving)
        for steps in range(1, 60):
            line = ((1, 0, 0),) + (QUIET,) * (steps - 1) + ((0, 1, 0),) + (QUIET,) * (steps - 1) + ((0, 0, 1),)
            self.assertEqual(machine.run(((1, 1, 1),), steps), line)
            self.assertEqual(machine.run_back(line, steps), ((1, 1, 1),))
            back = ((0, 0, 1),) + (QUIET,) * (steps - 1) + ((0, 1, 0),) + (QUIET,) * (steps - 1) + ((1, 0, 0),)
            self.assertEqual(machine.run_back(((1, 1, 1),), steps), back)

    def test_the_empty_line(self):
        for machine, _ in machines():
            self.assertEqual((machine.step(()), machine.back(())), ((), ()))
            for steps in (0, 1, 7):
                self.assertEqual((machine.run((), steps), machine.run_back((), steps)), ((), ()))

    def test_no_method_tells_a_stop(self):
        self.assertFalse(hasattr(Parts, "stopped"))


class Rows(unittest.TestCase):
    def test_against_the_model(self):
        rng = rng_of(129)
        for machine, rule in machines():
            for line in [(), some_line(rng, machine.sizes), some_line(rng, machine.sizes)]:
                for steps in (0, 1, 2, 5):
                    rows = machine.rows(line, steps)
                    self.assertIsInstance(rows, list)
                    self.assertEqual(len(rows), steps + 1)
                    places = spread(line)
                    for row in rows:
                        expected = tuple(places.get(at, QUIET) for at in range(-steps, len(line) + steps))
                        self.assertEqual(row, expected)
                        places = step_places(rule, places)

    def test_written_out(self):
        moving = {(x, y, z): (z, y, x) for x in range(2) for y in range(2) for z in range(2)}
        machine = Parts((2, 2, 2), moving)
        self.assertEqual(machine.rows(((1, 1, 0),), 0), [((1, 1, 0),)])
        self.assertEqual(machine.rows(((1, 1, 0),), 2), [
            (QUIET, QUIET, (1, 1, 0), QUIET, QUIET), (QUIET, (1, 0, 0), (0, 1, 0), QUIET, QUIET),
            ((1, 0, 0), QUIET, (0, 1, 0), QUIET, QUIET)])
        self.assertEqual(machine.rows(((0, 0, 1), (0, 1, 0)), 1), [
            (QUIET, (0, 0, 1), (0, 1, 0), QUIET), (QUIET, QUIET, (0, 1, 1), QUIET)])
        self.assertEqual(machine.rows((), 0), [()])
        self.assertEqual(machine.rows((), 2), [(QUIET,) * 4] * 3)

    def test_what_comes_back_may_be_changed(self):
        machine = Parts((2, 2, 2), dict(STILL))
        line = ((0, 0, 1),)
        rows = machine.rows(line, 3)
        machine.rows(line, 3).clear()
        self.assertEqual(machine.rows(line, 3), rows)
