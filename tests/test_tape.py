"""[0.2], [0.5], [1.1], [1.2], [1.3]: machines with one tape."""

import unittest

from backstair.errors import BadMachine, BadMark
from backstair.tape import Tape, trimmed
from tests.oracle import ODD, all_tapes, rng_of, some_rows, some_tape, tape_step

# Counts up in binary: clears the ones on its way to the left, marks the first blank, and steps back.
COUNTER = [(1, 1, 1), (0, -1, 0), None, (1, 1, 1)]
NO_ROWS = [[0, 1, 0], (0, 1), (0, 1, 0, 0), (), (0,), (3, 1, 0), (-1, 1, 0), (0, 0, 0), (0, 2, 0), (0, -2, 0),
           (0, 1, 2), (0, 1, -1), (True, 1, 0), (False, 1, 0), (0, True, 0), (0, False, 0), (0, 1, True),
           (0, 1, False), (None, 1, 0), (0, None, 0), (0, 1, None), ("0", 1, 0), (0, "right", 0), (0, 1, "0"),
           ((0,), 1, 0), (0, (1,), 0), (0, 1, (0,)), 0, 1, True, False, "", "stop", "abc", [], {}, object()]


class Numbers(unittest.TestCase):
    def test_all_allowed_numbers(self):
        for marks in range(2, 9):
            for states in range(1, 41):
                machine = Tape(marks, states, [None] * (marks * states))
                self.assertEqual((machine.marks, machine.states), (marks, states))
                self.assertEqual(machine.table(), [None] * (marks * states))

    def test_marks_out_of_range(self):
        for marks in [-2, -1, 0, 1, 9, 10, 400, 10 ** 30]:
            for many in {0, 1, max(0, min(marks, 999)), 2, 8, 9}:
                with self.assertRaises(BadMachine):
                    Tape(marks, 1, [None] * many)

    def test_states_out_of_range(self):
        for states in [-1, 0, 41, 42, 5000, 10 ** 30]:
            for many in {0, 1, 2, max(0, min(2 * states, 9999))}:
                with self.assertRaises(BadMachine):
                    Tape(2, states, [None] * many)

    def test_no_integers(self):
        for odd in [True, False, None, "2", (2,)]:
            for many in (0, 1, 2):
                with self.assertRaises(BadMachine):
                    Tape(odd, 1, [None] * many)
                with self.assertRaises(BadMachine):
                    Tape(2, odd, [None] * many)
        with self.assertRaises(BadMachine):
            Tape(2, True, [None, None])
        with self.assertRaises(BadMachine):
            Tape(True, 2, [None, None])


class Rows(unittest.TestCase):
    def test_too_many_or_too_few(self):
        for marks, states in [(2, 1), (3, 4), (8, 40)]:
            right = marks * states
            Tape(marks, states, [None] * right)
            for many in [0, 1, right - 1, right + 1, 2 * right]:
                with self.assertRaises(BadMachine):
                    Tape(marks, states, [None] * many)

    def test_members_that_are_no_rows(self):
        for wrong in NO_ROWS:
            for at in range(6):
                rows = [None, (2, 1, 1), (0, -1, 0), None, (1, 1, 0), (2, -1, 1)]
                rows[at] = wrong
                with self.assertRaises(BadMachine, msg=repr(wrong)):
                    Tape(3, 2, rows)

    def test_all_rows_are_allowed(self):
        for marks, states in [(2, 1), (3, 2), (8, 40)]:
            for mark in range(marks):
                for move in (-1, 1):
                    for state in range(states):
                        rows = [(mark, move, state)] + [None] * (marks * states - 1)
                        self.assertEqual(Tape(marks, states, rows).row(0, 0), (mark, move, state))

    def test_ends_of_a_members_ranges(self):
        for marks, states in [(2, 1), (3, 2), (8, 40)]:
            for wrong in [(marks, 1, 0), (-1, 1, 0), (0, 1, states), (0, 1, -1)]:
                with self.assertRaises(BadMachine):
                    Tape(marks, states, [None] * (marks * states - 1) + [wrong])

    def test_row_of_each_state_and_mark(self):
        rng = rng_of(1)
        for marks, states in [(2, 1), (3, 2), (5, 7), (8, 40)]:
            rows = some_rows(rng, marks, states)
            machine = Tape(marks, states, rows)
            for state in range(states):
                for mark in range(marks):
                    self.assertEqual(machine.row(state, mark), rows[marks * state + mark])

    def test_row_of_none(self):
        machine = Tape(3, 2, [(0, 1, 0)] * 6)
        for state, mark in [(2, 0), (-1, 0), (0, 3), (0, -1), (5, 5), (True, 0), (False, 0), (0, True), (0, False),
                            (1, 3), (0, 4), (0, 5), (-2, 0), (1, -1), (10 ** 30, 0), (0, 10 ** 30)]:
            with self.assertRaises(BadMachine):
                machine.row(state, mark)

    def test_the_list_is_copied(self):
        rows = list(COUNTER)
        machine = Tape(2, 2, rows)
        rows[0] = None
        rows.append(None)
        self.assertEqual(machine.table(), COUNTER)
        self.assertEqual(machine.row(0, 0), (1, 1, 1))
        self.assertEqual(machine.step((0, (), 0, ())), (1, (1,), 0, ()))

    def test_the_table_is_new_each_time(self):
        machine = Tape(2, 2, COUNTER)
        one = machine.table()
        self.assertIsInstance(one, list)
        self.assertIsNot(one, machine.table())
        one[0] = None
        one.append(None)
        self.assertEqual(machine.table(), COUNTER)
        self.assertEqual(machine.row(0, 0), (1, 1, 1))
        self.assertEqual(machine.step((0, (), 0, ())), (1, (1,), 0, ()))

    def test_a_list_that_is_refused_stays(self):
        rows = [None, (0, 0, 0)]
        with self.assertRaises(BadMachine):
            Tape(2, 1, rows)
        self.assertEqual(rows, [None, (0, 0, 0)])


class Configurations(unittest.TestCase):
    def check(self, machine, value, right):
        self.assertIs(machine.is_configuration(value), right, repr(value))

    def test_all_small_ones(self):
        machine = Tape(3, 2, [None] * 6)
        for tape in all_tapes(3, 2):
            for state in (0, 1):
                self.check(machine, (state,) + tape, True)

    def test_greatest_numbers(self):
        machine = Tape(8, 40, [None] * 320)
        self.check(machine, (39, (7, 0, 7), 7, (0, 0, 7)), True)
        self.check(machine, (40, (7, 0, 7), 7, (0, 0, 7)), False)
        self.check(machine, (39, (8, 0, 7), 7, (0, 0, 7)), False)
        self.check(machine, (39, (7, 0, 7), 8, (0, 0, 7)), False)
        self.check(machine, (39, (7, 0, 7), 7, (0, 8, 7)), False)

    def test_one_wrong_part(self):
        machine = Tape(3, 2, [None] * 6)
        states = [odd for odd in ODD] + [2, 3, 40]
        marks = [odd for odd in ODD] + [3, 4, 8]
        sides = [odd for odd in ODD if odd not in [(), (1,)]]
        sides += [(0,), (0, 0), (1, 0), (1, 2, 0), (3,), (1, 3), (3, 1), (-1,), (1, -1, 1), (True,), (False, 1),
                  (1, True), (False,), (1, None), ("1",), ((1,),), [1], [1, 2], (1, (), 1), "11", b"\x01", (1.0,),
                  {1: 1}, range(1, 2)]
        for wrong in states:
            self.check(machine, (wrong, (), 0, ()), False)
            self.check(machine, (wrong, (1,), 2, (0, 1)), False)
        for wrong in marks:
            self.check(machine, (0, (), wrong, ()), False)
            self.check(machine, (1, (1,), wrong, (0, 1)), False)
        for wrong in sides:
            self.check(machine, (0, wrong, 0, ()), False)
            self.check(machine, (0, (), 0, wrong), False)
            self.check(machine, (1, (1,), 1, wrong), False)

    def test_other_kinds_and_lengths(self):
        machine = Tape(3, 2, [None] * 6)
        for odd in ODD + [[0, (), 0, ()], (0, (), 0), (0, (), 0, (), ()), (0, (), 0, (), 0), ((0, (), 0, ()),),
                          ((), 0, ()), (0, ((), 0, ())), "0000", {0: 0, 1: 1, 2: 2, 3: 3}, ()]:
            self.check(machine, odd, False)

    def test_begin(self):
        machine = Tape(3, 2, [None] * 6)
        for word, right in [((), (0, (), 0, ())), ((0,), (0, (), 0, ())), ((2,), (0, (), 2, ())),
                            ((1, 2), (0, (), 1, (2,))), ((0, 2), (0, (), 0, (2,))), ((1, 0), (0, (), 1, ())),
                            ((1, 0, 0), (0, (), 1, ())), ((0, 0, 0), (0, (), 0, ())),
                            ((0, 0, 1, 0, 2, 0, 0), (0, (), 0, (0, 1, 0, 2)))]:
            self.assertEqual(machine.begin(word), right)
            self.assertTrue(machine.is_configuration(machine.begin(word)))

    def test_begin_with_what_is_no_mark(self):
        machine = Tape(3, 2, [None] * 6)
        for odd in ODD + [3, 4, 8]:
            for word in [(odd,), (odd, 1), (1, odd), (1, odd, 2), (0, odd), (1, 2, 0, odd), (odd, 0)]:
                with self.assertRaises(BadMark, msg=repr(word)):
                    machine.begin(word)
        self.assertEqual(Tape(8, 1, [None] * 8).begin((7, 7)), (0, (), 7, (7,)))
        with self.assertRaises(BadMark):
            Tape(8, 1, [None] * 8).begin((8,))
        with self.assertRaises(BadMark):
            Tape(2, 1, [None] * 2).begin((1, 2))

    def test_trimmed(self):
        for marks, right in [((), ()), ((0,), ()), ((0, 0, 0), ()), ((1,), (1,)), ((1, 0), (1,)), ((0, 1), (0, 1)),
                             ((0, 1, 0, 0), (0, 1)), ((3, 0, 0, 7, 0), (3, 0, 0, 7)), ((0, 0, 5), (0, 0, 5))]:
            self.assertEqual(trimmed(marks), right)
            self.assertIsInstance(trimmed(marks), tuple)


class Runs(unittest.TestCase):
    def test_a_single_step(self):
        right = Tape(2, 2, [(1, 1, 1), (0, 1, 1), None, None])
        self.assertEqual(right.step((0, (), 0, ())), (1, (1,), 0, ()))
        self.assertEqual(right.step((0, (), 1, ())), (1, (), 0, ()))
        self.assertEqual(right.step((0, (1,), 1, (0, 1))), (1, (0, 1), 0, (1,)))
        self.assertEqual(right.step((0, (), 1, (1, 0, 1))), (1, (), 1, (0, 1)))
        left = Tape(2, 2, [(1, -1, 1), (0, -1, 1), None, None])
        self.assertEqual(left.step((0, (), 0, ())), (1, (), 0, (1,)))
        self.assertEqual(left.step((0, (), 1, ())), (1, (), 0, ()))
        self.assertEqual(left.step((0, (0, 1), 1, (1,))), (1, (1,), 0, (0, 1)))
        self.assertEqual(left.step((0, (1, 0, 1), 1, ())), (1, (0, 1), 1, ()))

    def test_steps_of_all_small_tapes(self):
        rng = rng_of(2)
        tapes = all_tapes(3, 2)
        for _ in range(12):
            rows = some_rows(rng, 3, 2)
            machine = Tape(3, 2, rows)
            for state in (0, 1):
                for tape in tapes:
                    before = (state,) + tape
                    after = tape_step(rows, 3, before)
                    self.assertEqual(machine.step(before), after)
                    self.assertIs(machine.stopped(before), after is None)
                    self.assertTrue(after is None or machine.is_configuration(after))

    def test_runs_of_all_kinds_of_machines(self):
        rng = rng_of(3)
        for _ in range(150):
            marks, states = rng.randrange(2, 9), rng.randrange(1, 41)
            rows = some_rows(rng, marks, states, 20)
            machine = Tape(marks, states, rows)
            run = [(rng.randrange(states),) + some_tape(rng, marks)]
            while len(run) <= 40 and tape_step(rows, marks, run[-1]) is not None:
                run.append(tape_step(rows, marks, run[-1]))
            for steps in (0, 1, len(run) // 2, len(run) - 2, len(run) - 1, len(run), 40):
                taken = min(steps, len(run) - 1)
                if 0 <= steps <= 40:
                    self.assertEqual(machine.run(run[0], steps), (run[taken], taken))

    def test_grows_and_shrinks_on_both_sides(self):
        # Marks more and more places on both sides, in turn, from one end to the other.
        machine = Tape(2, 2, [(1, 1, 1), (1, -1, 0), (1, -1, 0), (1, 1, 1)])
        self.assertEqual(machine.run((0, (), 0, ()), 1), ((1, (1,), 0, ()), 1))
        self.assertEqual(machine.run((0, (), 0, ()), 2), ((0, (), 1, (1,)), 2))
        self.assertEqual(machine.run((0, (), 0, ()), 3), ((0, (), 0, (1, 1)), 3))
        wide = machine.run((0, (), 0, ()), 500)[0]
        self.assertTrue(machine.is_configuration(wide))
        self.assertGreater(len(wide[1]) + len(wide[3]), 20)
        wiper = Tape(2, 2, [None, (0, 1, 0), None, (0, -1, 1)])
        self.assertEqual(wiper.run((0, (), 1, (1,) * 30), 100), ((0, (), 0, ()), 31))
        self.assertEqual(wiper.run((1, (1,) * 30, 1, ()), 100), ((1, (), 0, ()), 31))
        self.assertEqual(wiper.run((1, (1,) * 3, 1, (1, 1)), 100), ((1, (), 0, (0, 0, 0, 0, 1, 1)), 4))

    def test_the_counter(self):
        machine = Tape(2, 2, COUNTER)
        self.assertEqual(machine.run((0, (), 0, ()), 9), ((1, (1,), 0, ()), 1))
        self.assertEqual(machine.run((0, (1, 1), 1, ()), 9), ((1, (1,), 0, ()), 4))
        self.assertEqual(machine.run((0, (1, 0, 1), 1, ()), 2), ((0, (1,), 0, ()), 2))

    def test_run_of_no_steps(self):
        machine = Tape(2, 1, [None, (0, 1, 0)])
        for configuration in [(0, (), 1, (1,)), (0, (), 0, (1,)), (0, (1,), 0, ())]:
            self.assertEqual(machine.run(configuration, 0), (configuration, 0))

    def test_fewer_as_many_and_more_steps(self):
        machine = Tape(2, 1, [None, (0, 1, 0)])
        begin = machine.begin((1, 1, 1))
        for steps, right in [(1, (0, (), 1, (1,))), (2, (0, (), 1, ())), (3, (0, (), 0, ()))]:
            self.assertEqual(machine.run(begin, steps), (right, steps))
        for steps in (4, 5, 100, 10 ** 18):
            self.assertEqual(machine.run(begin, steps), ((0, (), 0, ()), 3))

    def test_stopped(self):
        machine = Tape(2, 2, COUNTER)
        self.assertIs(machine.stopped((1, (1,), 0, ())), True)
        self.assertIsNone(machine.step((1, (1,), 0, ())))
        self.assertIs(machine.stopped((1, (1,), 1, ())), False)
        self.assertIs(machine.stopped((0, (), 0, ())), False)

    def test_a_machine_that_only_stops(self):
        machine = Tape(2, 1, [None, None])
        self.assertEqual(machine.run(machine.begin((1, 1)), 7), ((0, (), 1, (1,)), 0))
        self.assertIs(machine.stopped(machine.begin(())), True)

    def test_the_greatest_machine(self):
        rows = [((mark + 1) % 8, 1 if state % 2 else -1, (state * 7 + mark) % 40)
                for state in range(40) for mark in range(8)]
        machine = Tape(8, 40, rows)
        configuration = machine.begin((7, 0, 3, 1))
        for _ in range(300):
            configuration = tape_step(rows, 8, configuration)
        self.assertEqual(machine.run(machine.begin((7, 0, 3, 1)), 300), (configuration, 300))

    def test_a_run_changes_nothing(self):
        machine = Tape(2, 2, COUNTER)
        configuration = (0, (1, 1), 1, (0, 1))
        first = machine.run(configuration, 50)
        self.assertEqual(configuration, (0, (1, 1), 1, (0, 1)))
        self.assertEqual(machine.run(configuration, 50), first)
        self.assertEqual(machine.table(), COUNTER)
