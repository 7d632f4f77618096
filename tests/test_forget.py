"""[1.5], [1.6], [1.7]: by what an ordinary machine forgets."""

import itertools
import unittest

from backstair.forget import before, clashes, forgets
from backstair.tape import Tape
from tests.oracle import all_tapes, rng_of, some_rows, some_tape, tape_step

# All rows of machines of one and of two states with two marks.
ONE_STATE = [None] + [(mark, move, 0) for mark in (0, 1) for move in (-1, 1)]
TWO_STATES = [None] + [(mark, move, state) for mark in (0, 1) for move in (-1, 1) for state in (0, 1)]


def pairs_of(rows, marks):
    """Return the list of the pairs of places that clash by the words of the document."""
    found = []
    for i, j in itertools.combinations(range(len(rows)), 2):
        one, two = rows[i], rows[j]
        if one is not None and two is not None and one[2] == two[2]:
            if one[1] != two[1] or one[0] == two[0]:
                found.append((divmod(i, marks), divmod(j, marks)))
    return found


def sources(rows, marks, states, longest):
    """Return a dict from configurations to those with tapes of limited length that lead to them."""
    found = {}
    for state in range(states):
        for tape in all_tapes(marks, longest):
            after = tape_step(rows, marks, (state,) + tape)
            if after is not None:
                found.setdefault(after, []).append((state,) + tape)
    return found


class Clashes(unittest.TestCase):
    def test_all_machines_of_one_state(self):
        for rows in itertools.product(ONE_STATE, repeat=2):
            machine = Tape(2, 1, list(rows))
            self.assertEqual(clashes(machine), pairs_of(rows, 2))
            self.assertIs(forgets(machine), pairs_of(rows, 2) != [])

    def test_all_machines_of_two_states(self):
        for rows in itertools.product(TWO_STATES, repeat=4):
            self.assertEqual(clashes(Tape(2, 2, list(rows))), pairs_of(rows, 2))

    def test_they_are_what_leads_two_configurations_to_one(self):
        rng = rng_of(11)
        tables = [list(rows) for rows in itertools.product(ONE_STATE, repeat=2)]
        tables += [some_rows(rng, 2, 2) for _ in range(40)]
        for rows in tables:
            found = set()
            for meeting in sources(rows, 2, len(rows) // 2, 2).values():
                places = sorted((configuration[0], configuration[2]) for configuration in meeting)
                found.update(itertools.combinations(places, 2))
            machine = Tape(2, len(rows) // 2, rows)
            self.assertEqual(clashes(machine), sorted(found))
            self.assertIs(forgets(machine), len(found) > 0)

    def test_machines_of_all_sizes(self):
        rng = rng_of(12)
        for _ in range(60):
            marks, states = rng.randrange(2, 9), rng.randrange(1, 41)
            rows = some_rows(rng, marks, states, 2)
            machine = Tape(marks, states, rows)
            self.assertEqual(clashes(machine), pairs_of(rows, marks))
            self.assertEqual(machine.table(), rows)

    def test_the_kinds_of_pairs(self):
        for one, two, right in [
                ((0, 1, 0), (0, 1, 0), True), ((0, 1, 0), (1, 1, 0), False), ((0, 1, 0), (0, -1, 0), True),
                ((0, 1, 0), (1, -1, 0), True), ((0, -1, 0), (0, -1, 0), True), ((0, -1, 0), (1, -1, 0), False),
                ((0, 1, 0), (0, 1, 1), False), ((0, 1, 0), (0, -1, 1), False), ((0, 1, 1), (1, -1, 1), True),
                ((0, 1, 1), None, False), (None, (0, 1, 1), False), (None, None, False)]:
            machine = Tape(2, 2, [None, one, two, None])
            self.assertEqual(clashes(machine), [((0, 1), (1, 0))] if right else [])
            self.assertIs(forgets(machine), right)

    def test_the_greatest_machine_that_forgets_everything(self):
        machine = Tape(8, 40, [(0, 1, 39)] * 320)
        places = [(state, mark) for state in range(40) for mark in range(8)]
        self.assertEqual(clashes(machine), list(itertools.combinations(places, 2)))
        self.assertIs(forgets(machine), True)

    def test_the_greatest_machine_that_forgets_nothing(self):
        rows = [((mark + state) % 8, 1 if state % 2 else -1, (7 * state + 3) % 40)
                for state in range(40) for mark in range(8)]
        self.assertEqual(clashes(Tape(8, 40, rows)), [])
        self.assertIs(forgets(Tape(8, 40, rows)), False)
        rows[319] = (rows[319][0], -rows[319][1], rows[319][2])
        self.assertEqual(clashes(Tape(8, 40, rows)), [((39, mark), (39, 7)) for mark in range(7)])
        self.assertIs(forgets(Tape(8, 40, rows)), True)

    def test_new_each_time(self):
        machine = Tape(2, 1, [(0, 1, 0), (0, 1, 0)])
        clashes(machine).clear()
        self.assertEqual(clashes(machine), [((0, 0), (0, 1))])


class Before(unittest.TestCase):
    def check(self, rows, marks, states, longest):
        machine = Tape(marks, states, rows)
        known = sources(rows, marks, states, longest + 1)
        for state in range(states):
            for tape in all_tapes(marks, longest):
                # What leads here has at most one place more on each side.
                self.assertEqual(before(machine, (state,) + tape), sorted(known.get((state,) + tape, [])))

    def test_all_machines_of_one_state(self):
        for rows in itertools.product(ONE_STATE, repeat=2):
            self.check(list(rows), 2, 1, 2)

    def test_machines_of_two_and_three_states(self):
        rng = rng_of(13)
        for _ in range(25):
            self.check(some_rows(rng, 2, 2, 5), 2, 2, 2)
        for _ in range(4):
            self.check(some_rows(rng, 3, 3, 5), 3, 3, 1)

    def test_greater_machines(self):
        rng = rng_of(14)
        for _ in range(80):
            marks, states = rng.randrange(2, 9), rng.randrange(1, 41)
            rows = some_rows(rng, marks, states, 6)
            machine = Tape(marks, states, rows)
            for _ in range(10):
                one = (rng.randrange(states),) + some_tape(rng, marks)
                two = machine.step(one)
                if two is not None:
                    found = before(machine, two)
                    self.assertIn(one, found)
                    self.assertEqual(found, sorted(set(found)))
                    for source in found:
                        self.assertTrue(machine.is_configuration(source))
                        self.assertEqual(tape_step(rows, marks, source), two)

    def test_many_lead_to_one(self):
        machine = Tape(8, 40, [(0, 1, 39)] * 320)
        found = [(state, (), mark, ()) for state in range(40) for mark in range(8)]
        self.assertEqual(before(machine, (39, (), 0, ())), found)
        self.assertEqual(before(machine, (39, (1,), 0, ())), [])
        self.assertEqual(before(machine, (38, (), 0, ())), [])

    def test_both_moves_and_their_order(self):
        machine = Tape(2, 2, [(1, 1, 1), (1, -1, 1), (0, -1, 1), (0, 1, 1)])
        self.assertEqual(before(machine, (1, (1,), 0, (1,))), [(0, (), 0, (0, 1)), (0, (0, 1), 1, ())])
        self.assertEqual(before(machine, (1, (), 0, ())), [(1, (), 0, ()), (1, (), 1, ())])
        self.assertEqual(before(machine, (1, (), 1, ())), [(1, (), 1, (1,)), (1, (1,), 0, ())])
        self.assertEqual(before(machine, (0, (1,), 0, (1,))), [])

    def test_at_most_one_if_nothing_is_forgotten(self):
        rows = [((mark + state) % 8, 1 if state % 2 else -1, (7 * state + 3) % 40)
                for state in range(40) for mark in range(8)]
        machine = Tape(8, 40, rows)
        rng = rng_of(15)
        for _ in range(200):
            configuration = (rng.randrange(40),) + some_tape(rng, 8)
            self.assertEqual(before(machine, machine.step(configuration)), [configuration])

    def test_a_machine_without_rows(self):
        self.assertEqual(before(Tape(2, 1, [None, None]), (0, (), 0, ())), [])


class Example(unittest.TestCase):
    def test_one_row(self):
        machine = Tape(2, 1, [None, (0, 1, 0)])
        self.assertEqual(clashes(machine), [])
        self.assertIs(forgets(machine), False)
        self.assertEqual(before(machine, (0, (), 1, ())), [(0, (), 1, (1,))])
        self.assertEqual(machine.step((0, (), 1, (1,))), (0, (), 1, ()))

    def test_two_rows(self):
        machine = Tape(2, 1, [(0, 1, 0), (0, 1, 0)])
        self.assertEqual(clashes(machine), [((0, 0), (0, 1))])
        self.assertIs(forgets(machine), True)
