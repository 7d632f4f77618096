"""[2.12] to [2.14]: ordinary machines as machines of one tape, and machines in a row."""

import itertools
import unittest

from backstair.errors import BadMachine, Clash
from backstair.forget import forgets
from backstair.inverse import clash, inverse
from backstair.plain import joined, plain
from backstair.several import Several
from backstair.tape import Tape
from tests.oracle import (clash_backwards, clash_forwards, first_pair, greatest_rows, rng_of, several_run,
                          some_configuration, some_rows, some_several_rows, some_tape, tape_step)


def plain_rows(rows, marks, states):
    """Return the rows of `plain` as the document tells them."""
    found = []
    for place, row in enumerate(rows):
        if row is not None:
            state = states + 2 * row[2] + {-1: 0, 1: 1}[row[1]]
            found.append(("write", place // marks, (place % marks,), (row[0],), state))
    for after in range(states):
        for at, move in enumerate((-1, 1)):
            if any(row is not None and row[1:] == (move, after) for row in rows):
                found.append(("move", states + 2 * after + at, (move,), after))
    return found


def lifted(rows, by):
    """Return rows with the numbers of their states raised."""
    found = []
    for row in rows:
        changed = list(row)
        changed[1] += by
        changed[-1] += by
        found.append(tuple(changed))
    return found


class Plain(unittest.TestCase):
    def check(self, marks, states, rows):
        machine = Tape(marks, states, rows)
        other = plain(machine)
        self.assertEqual(other.table(), plain_rows(rows, marks, states))
        self.assertEqual((other.tapes, other.marks, other.states), (1, marks, 3 * states))
        self.assertIs(clash(other) is None, not forgets(machine))
        return machine, other

    def test_an_example(self):
        machine = Tape(3, 2, [(1, 1, 1), None, (2, -1, 0), (0, -1, 1), (0, 1, 1), None])
        other = plain(machine)
        self.assertIsInstance(other, Several)
        self.assertEqual((other.tapes, other.marks, other.states), (1, 3, 6))
        self.assertEqual(other.table(), [
            ("write", 0, (0,), (1,), 5), ("write", 0, (2,), (2,), 2), ("write", 1, (0,), (0,), 4),
            ("write", 1, (1,), (0,), 5), ("move", 2, (-1,), 0), ("move", 4, (-1,), 1), ("move", 5, (1,), 1)])
        self.assertEqual(machine.table(), [(1, 1, 1), None, (2, -1, 0), (0, -1, 1), (0, 1, 1), None])

    def test_machines_without_rows(self):
        self.check(2, 1, [None, None])
        self.check(8, 40, [None] * 320)

    def test_all_machines_of_two_marks_and_one_or_two_states(self):
        one = [None] + [(mark, move, 0) for mark in (0, 1) for move in (-1, 1)]
        two = [None] + [(mark, move, state) for mark in (0, 1) for move in (-1, 1) for state in (0, 1)]
        for rows in itertools.product(one, repeat=2):
            self.check(2, 1, list(rows))
        for rows in itertools.product(two, repeat=4):
            self.check(2, 2, list(rows))

    def test_two_steps_for_one(self):
        rng = rng_of(51)
        for _ in range(200):
            marks, states = rng.randrange(2, 9), rng.randrange(1, 41)
            rows = some_rows(rng, marks, states, 12)
            _, other = self.check(marks, states, rows)
            configuration = (rng.randrange(states),) + some_tape(rng, marks)
            for _ in range(10):
                lower = (configuration[0], (configuration[1:],))
                after = tape_step(rows, marks, configuration)
                if after is None:
                    self.assertIs(other.stopped(lower), True)
                    break
                self.assertEqual(other.run(lower, 2), ((after[0], (after[1:],)), 2))
                move = rows[configuration[0] * marks + configuration[2]][1]
                self.assertEqual(other.step(lower)[0], states + 2 * after[0] + (move == 1))
                configuration = after

    def test_machines_that_forget_and_that_do_not(self):
        for rows, right in [([None, (0, 1, 0)], True), ([(0, 1, 0), (0, 1, 0)], False), ([(1, 1, 0), (0, 1, 0)], True),
                            ([(1, 1, 0), (0, -1, 0)], False), ([(1, -1, 0), (1, -1, 0)], False)]:
            self.assertIs(clash(plain(Tape(2, 1, rows))) is None, right)

    def test_the_greatest_machines(self):
        rows = [((mark + state) % 8, 1 if state % 2 else -1, (7 * state + 3) % 40)
                for state in range(40) for mark in range(8)]
        machine, other = self.check(8, 40, rows)
        self.assertEqual(other.states, 120)
        lower = other.begin(((1, 2, 3),))
        end = machine.run(machine.begin((1, 2, 3)), 100)[0]
        self.assertEqual(other.run(lower, 200), ((end[0], (end[1:],)), 200))
        self.assertEqual(other.run_back((end[0], (end[1:],)), 200), (lower, 200))
        self.check(8, 40, [(7, -1, 39)] * 320)
        self.check(8, 40, [(mark, 1 - 2 * (mark % 2), state) for state in range(40) for mark in range(8)])


class Joined(unittest.TestCase):
    def test_an_example(self):
        first = Several(2, 3, 2, [("write", 0, (1, 0), (0, 1), 1), ("write", 0, (2, 0), (0, 2), 0)])
        second = Several(2, 3, 3, [("move", 0, (1, -1), 2), ("write", 2, (0, 0), (1, 1), 1)])
        machine = joined(first, 1, second)
        self.assertIsInstance(machine, Several)
        self.assertEqual((machine.tapes, machine.marks, machine.states), (2, 3, 5))
        self.assertEqual(machine.table(), [
            ("write", 0, (1, 0), (0, 1), 1), ("write", 0, (2, 0), (0, 2), 0), ("move", 1, (0, 0), 2),
            ("move", 2, (1, -1), 4), ("write", 4, (0, 0), (1, 1), 3)])
        self.assertEqual(machine.run(machine.begin(((1,), ())), 9),
                         ((3, (((), 1, ()), ((), 1, (1,)))), 4))

    def test_the_rows_of_some_machines(self):
        rng = rng_of(52)
        for _ in range(300):
            tapes, marks = rng.randrange(1, 5), rng.randrange(2, 5)
            states, more = rng.randrange(1, 8), rng.randrange(1, 8)
            rows = some_several_rows(rng, tapes, marks, states, 12, rng.randrange(2) == 0)
            others = some_several_rows(rng, tapes, marks, more, 12, rng.randrange(2) == 0)
            first, second = Several(tapes, marks, states, rows), Several(tapes, marks, more, others)
            for state in range(states):
                right = rows + [("move", state, (0,) * tapes, states)] + lifted(others, states)
                pair = first_pair(right, clash_forwards)
                self.assertIs(pair is None, all(row[1] != state for row in rows))
                if pair is None:
                    machine = joined(first, state, second)
                    self.assertEqual(machine.table(), right)
                    self.assertEqual((machine.tapes, machine.marks, machine.states), (tapes, marks, states + more))
                else:
                    with self.assertRaises(Clash) as caught:
                        joined(first, state, second)
                    self.assertEqual((caught.exception.first, caught.exception.second), pair)
            self.assertEqual((first.table(), second.table()), (rows, others))
            self.assertEqual((first.states, second.states), (states, more))

    def test_runs_one_after_the_other(self):
        rng = rng_of(53)
        many = 0
        for _ in range(900):
            rows = some_several_rows(rng, 1, 2, 4, 8, False)
            others = some_several_rows(rng, 1, 2, 4, 8, False)
            free = [state for state in range(4) if all(row[1] != state for row in rows)]
            if not free:
                continue
            machine = joined(Several(1, 2, 4, rows), free[0], Several(1, 2, 4, others))
            begin = some_configuration(rng, 1, 2, 4)
            run = several_run(rows, begin, 10)
            if run[-1][0] == free[0]:
                many += 1
                rest = several_run(others, (0, run[-1][1]), 10)
                end = (rest[-1][0] + 4, rest[-1][1])
                taken = len(run) + len(rest) - 1
                self.assertEqual(machine.run(begin, taken), (end, taken))
            else:
                self.assertEqual(machine.run(begin, len(run) - 1), (run[-1], len(run) - 1))
        self.assertGreater(many, 100)

    def test_it_goes_both_ways_if_both_do(self):
        rng = rng_of(54)
        many = 0
        for _ in range(300):
            rows = some_several_rows(rng, 2, 2, 4, 10, True)
            others = some_several_rows(rng, 2, 2, 4, 10, True)
            free = [state for state in range(4) if all(row[1] != state for row in rows)]
            if free:
                machine = joined(Several(2, 2, 4, rows), free[-1], Several(2, 2, 4, others))
                self.assertEqual(clash(machine), first_pair(machine.table(), clash_backwards))
                entered = any(row[-1] == 0 for row in others)
                self.assertIs(clash(machine) is None, not entered)
                many += not entered
        self.assertGreater(many, 20)

    def test_a_machine_and_its_inverse(self):
        turner = Several(1, 3, 3, [("write", 0, (1,), (2,), 1), ("write", 0, (2,), (1,), 1), ("move", 1, (1,), 0),
                                   ("write", 0, (0,), (0,), 2)])
        marker = Several(1, 3, 2, [("write", 0, (0,), (2,), 1)])
        machine = joined(turner, 2, marker)
        self.assertIsNone(clash(machine))
        end, taken = machine.run(machine.begin(((1, 2),)), 100)
        self.assertEqual((end, taken), ((4, (((1, 2), 2, ()),)), 7))
        self.assertEqual(machine.run_back(end, 7), (machine.begin(((1, 2),)), 7))
        self.assertEqual(inverse(machine).run(end, 7), (machine.begin(((1, 2),)), 7))
        self.assertEqual(turner.states, 3)
        self.assertEqual(marker.table(), [("write", 0, (0,), (2,), 1)])

    def test_other_tapes_or_marks(self):
        for first, second in [((1, 2), (2, 2)), ((2, 2), (1, 2)), ((4, 2), (3, 2)), ((1, 2), (1, 3)), ((1, 3), (1, 2)),
                              ((2, 400), (2, 399)), ((2, 3), (3, 2))]:
            for rows in ([], [("move", 0, (0,) * first[0], 0)]):
                with self.assertRaises(BadMachine):
                    joined(Several(*first, 2, rows), 0, Several(*second, 2, []))

    def test_no_such_state(self):
        first, second = Several(1, 2, 2, [("move", 0, (1,), 0)]), Several(1, 2, 9, [])
        for state in (-1, 2, 3, 8, 10 ** 30, True, False, None, "1", (1,)):
            with self.assertRaises(BadMachine):
                joined(first, state, second)
        self.assertEqual(joined(first, 1, second).states, 11)
        with self.assertRaises(Clash) as caught:
            joined(first, 0, second)
        self.assertEqual((caught.exception.first, caught.exception.second), (0, 1))

    def test_too_many_states(self):
        for states, more in [(1, 4999), (4999, 1), (2500, 2500)]:
            machine = joined(Several(1, 2, states, []), states - 1, Several(1, 2, more, [("move", more - 1, (0,), 0)]))
            self.assertEqual(machine.states, 5000)
            self.assertEqual(machine.table(), [("move", states - 1, (0,), states), ("move", 4999, (0,), states)])
        for states, more in [(1, 5000), (5000, 1), (2501, 2500), (5000, 5000)]:
            for rows in ([], [("move", 0, (0,), 0)]):
                with self.assertRaises(BadMachine):
                    joined(Several(1, 2, states, rows), 0, Several(1, 2, more, []))

    def test_the_first_pair_of_the_joined_list(self):
        rows = [("write", 1, (0,), (0,), 0), ("write", 0, (1,), (0,), 1), ("write", 0, (0,), (1,), 1)]
        second = Several(1, 2, 2, [("move", 0, (1,), 1), ("move", 1, (1,), 0)])
        for state, pair in [(0, (1, 3)), (1, (0, 3))]:
            with self.assertRaises(Clash) as caught:
                joined(Several(1, 2, 2, rows), state, second)
            self.assertEqual((caught.exception.first, caught.exception.second), pair)

    def test_great_machines(self):
        rows = greatest_rows()[:9999]
        machine = joined(Several(4, 400, 2501, rows), 2500, Several(4, 400, 2499, rows[:9990]))
        self.assertEqual(machine.table(), rows + [("move", 2500, (0,) * 4, 2501)] + lifted(rows[:9990], 2501))
        self.assertEqual(machine.states, 5000)
