"""[0.2], [0.4], [0.5], [3.1] to [3.6]: machines with notes, and pasts."""

import itertools
import unittest

from backstair.errors import BadPast
from backstair.forget import before
from backstair.history import History, past_of, trail, undone
from backstair.inverse import clash
from backstair.several import Several
from backstair.tape import Tape
from tests.oracle import ODD, all_tapes, rng_of, some_rows, some_tape, tape_run, tape_step

# Clears ones to the right of it and stops at the first blank, as in [1.7].
CLEARER = [None, (0, 1, 0)]
# Counts up in binary: clears the ones on its way to the left, marks the first blank, and steps back.
COUNTER = [(1, 1, 1), (0, -1, 0), None, (1, 1, 1)]
# What is no pair of a machine with two marks and two states.
NO_PAIRS = [(2, 0), (0, 2), (-1, 0), (0, -1), (True, 1), (1, True), (False, 0), (0, False), (None, 0), (0, None),
            ("0", 0), (0,), (0, 0, 0), (40, 8)] + ODD


def rows_by_names(machine):
    """Return the rows that [3.3] tells, made with the names of the states."""
    pairs = [(q, a) for q in range(machine.states) for a in range(machine.marks)]
    names = [("at", q) for q in range(machine.states)] + [("enter", q) for q in range(machine.states)]
    names += [("go", pair) for pair in pairs] + [("note", pair) for pair in pairs]
    number = {name: at for at, name in enumerate(names)}
    rows = []
    for at, (q, a) in enumerate(pairs):
        if machine.row(q, a) is not None:
            b, move, t = machine.row(q, a)
            rows.append(("write", number["at", q], (a, 0), (b, 0), number["go", (q, a)]))
            rows.append(("move", number["go", (q, a)], (move, 0), number["note", (q, a)]))
            for c in range(machine.marks):
                rows.append(("write", number["note", (q, a)], (c, 0), (c, at + 1), number["enter", t]))
    for q in range(machine.states):
        rows.append(("move", number["enter", q], (0, 1), number["at", q]))
    return len(names), rows


def machines():
    """Return machines with and without rows that are None, the smallest ones and the greatest among them."""
    rng = rng_of(31)
    found = [Tape(2, 1, list(rows)) for rows in itertools.product([None, (0, 1, 0), (1, -1, 0)], repeat=2)]
    found += [Tape(2, 2, COUNTER), Tape(8, 40, some_rows(rng, 8, 40)), Tape(8, 40, some_rows(rng, 8, 40, 10 ** 9)),
              Tape(8, 40, [None] * 320), Tape(8, 1, some_rows(rng, 8, 1)), Tape(2, 40, some_rows(rng, 2, 40))]
    for marks in (2, 3, 5):
        for states in (1, 2, 3, 7):
            found.append(Tape(marks, states, some_rows(rng, marks, states)))
            found.append(Tape(marks, states, some_rows(rng, marks, states, 10 ** 9)))
    return found


def small_machines():
    """Return machines with few marks and states, for tests over all their configurations."""
    rng = rng_of(32)
    found = [Tape(2, 1, CLEARER), Tape(2, 2, COUNTER), Tape(2, 1, [None, None]), Tape(2, 1, [(1, 1, 0), (0, -1, 0)])]
    return found + [Tape(marks, states, some_rows(rng, marks, states)) for marks, states in [(2, 2), (3, 2), (2, 3)]]


def configurations(machine, longest=2):
    """Return all configurations of a machine with a short tape."""
    return [(state,) + tape for state in range(machine.states) for tape in all_tapes(machine.marks, longest)]


def pairs_of(machine):
    """Return all pairs of a machine, those without a row, too."""
    return [(state, mark) for state in range(machine.states) for mark in range(machine.marks)]


def pasts(machine, longest):
    """Return all tuples of at most so many pairs."""
    return [past for many in range(longest + 1) for past in itertools.product(pairs_of(machine), repeat=many)]


class Lower(unittest.TestCase):
    def test_sizes_and_rows(self):
        for machine in machines():
            states, rows = rows_by_names(machine)
            lower = History(machine).lower
            self.assertIsInstance(lower, Several)
            self.assertEqual(lower.tapes, 2)
            self.assertEqual(lower.marks, machine.marks * machine.states + 1)
            self.assertEqual(lower.states, 2 * machine.states + 2 * machine.marks * machine.states)
            self.assertEqual(lower.states, states)
            self.assertEqual(lower.table(), rows)

    def test_rows_written_out(self):
        lower = History(Tape(2, 1, CLEARER)).lower
        self.assertEqual((lower.marks, lower.states), (3, 6))
        self.assertEqual(lower.table(), [
            ("write", 0, (1, 0), (0, 0), 3), ("move", 3, (1, 0), 5), ("write", 5, (0, 0), (0, 2), 1),
            ("write", 5, (1, 0), (1, 2), 1), ("move", 1, (0, 1), 0)])

    def test_greatest(self):
        machine = Tape(8, 40, [(7, -1, 39)] * 320)
        lower = History(machine).lower
        self.assertEqual((lower.marks, lower.states, len(lower.table())), (321, 720, 3240))
        self.assertEqual(lower.table()[-42], ("write", 719, (6, 0), (6, 320), 79))
        self.assertEqual(lower.table()[-1], ("move", 79, (0, 1), 39))

    def test_upper_is_what_was_handed_in(self):
        for machine in small_machines():
            table = machine.table()
            stair = History(machine)
            self.assertIs(stair.upper, machine)
            stair.down(machine.begin(()), ((0, 0),))
            self.assertEqual(machine.table(), table)

    def test_goes_both_ways(self):
        for machine in machines():
            self.assertIsNone(clash(History(machine).lower))


class Belonging(unittest.TestCase):
    def test_down_written_out(self):
        stair = History(Tape(3, 2, [None] * 6))
        self.assertEqual(stair.down((1, (2,), 0, (0, 1)), ()), (1, (((2,), 0, (0, 1)), ((), 0, ()))))
        self.assertEqual(stair.down((0, (), 2, ()), ((0, 0), (1, 2), (0, 1))), (0, (((), 2, ()), ((2, 6, 1), 0, ()))))

    def test_down_and_up_again(self):
        for machine in small_machines():
            stair = History(machine)
            for configuration in configurations(machine, 1):
                for past in pasts(machine, 2):
                    lower = stair.down(configuration, past)
                    self.assertTrue(stair.lower.is_configuration(lower))
                    self.assertEqual(lower[0], configuration[0])
                    self.assertEqual(lower[1][0], configuration[1:])
                    notes = tuple(machine.marks * q + a + 1 for q, a in past)
                    self.assertEqual(lower[1][1], (tuple(reversed(notes)), 0, ()))
                    self.assertEqual(stair.up(lower), (configuration, past))

    def test_long_past(self):
        rng = rng_of(33)
        machine = Tape(8, 40, some_rows(rng, 8, 40))
        stair = History(machine)
        for many in (1, 10, 1000):
            past = tuple((rng.randrange(40), rng.randrange(8)) for _ in range(many))
            configuration = (rng.randrange(40),) + some_tape(rng, 8)
            self.assertEqual(stair.up(stair.down(configuration, past)), (configuration, past))

    def test_up_of_all_lower_configurations(self):
        for machine in [Tape(2, 1, CLEARER), Tape(2, 1, [(1, 1, 0), (0, -1, 0)]), Tape(2, 1, [None, None])]:
            stair = History(machine)
            known = {}
            for configuration in configurations(machine, 2):
                for past in pasts(machine, 2):
                    known[stair.down(configuration, past)] = (configuration, past)
            found = 0
            for state in range(stair.lower.states):
                for tape in all_tapes(3, 1):
                    for notes in all_tapes(3, 2):
                        lower = (state, (tape, notes))
                        self.assertEqual(stair.up(lower), known.get(lower), lower)
                        found += lower in known
            self.assertGreater(found, 0)

    def test_up_of_what_belongs_to_nothing(self):
        machine = Tape(2, 2, COUNTER)
        stair = History(machine)
        good = (1, (((1,), 1, (0, 1)), ((4, 1), 0, ())))
        self.assertEqual(stair.up(good), ((1, (1,), 1, (0, 1)), ((0, 0), (1, 1))))
        for state in range(2, stair.lower.states):
            self.assertIsNone(stair.up((state,) + good[1:]), state)
        notes = [((4, 1), 1, ()), ((4, 1), 4, ()), ((4, 1), 0, (1,)), ((4, 1), 0, (0, 4)), ((4, 0, 1), 0, ()),
                 ((0, 1), 0, ()), ((), 2, ()), ((), 0, (3,)), ((4,), 1, (1,))]
        for wrong in notes:
            self.assertIsNone(stair.up((1, (((1,), 1, (0, 1)), wrong))), wrong)
        for wrong in [((2,), 1, ()), ((), 2, ()), ((), 0, (2,)), ((), 4, ()), ((0, 3), 1, ()), ((1, 2, 1), 1, ()),
                      ((1,), 1, (1, 4, 1))]:
            self.assertIsNone(stair.up((1, (wrong, ((4, 1), 0, ())))), wrong)

    def test_pace(self):
        for machine in small_machines():
            stair = History(machine)
            for configuration in configurations(machine):
                going = machine.row(configuration[0], configuration[2]) is not None
                self.assertEqual(stair.pace(configuration), 4 if going else 0)


class Steps(unittest.TestCase):
    def test_four_for_one(self):
        for machine in small_machines():
            stair = History(machine)
            for configuration in configurations(machine):
                for past in pasts(machine, 1):
                    self.check(stair, configuration, past)

    def check(self, stair, configuration, past):
        lower = stair.down(configuration, past)
        machine = stair.upper
        after = tape_step(machine.table(), machine.marks, configuration)
        if after is None:
            self.assertIsNone(stair.lower.step(lower))
            self.assertIs(stair.lower.stopped(lower), True)
            return
        between = [stair.lower.run(lower, many) for many in range(5)]
        self.assertEqual([many for _, many in between], [0, 1, 2, 3, 4])
        for part, _ in between[1:4]:
            self.assertIsNone(stair.up(part))
        longer = past + ((configuration[0], configuration[2]),)
        self.assertEqual(between[4][0], stair.down(after, longer))
        self.assertEqual(stair.up(between[4][0]), (after, longer))
        self.assertEqual(stair.lower.run_back(between[4][0], 4), (lower, 4))

    def test_long_runs(self):
        rng = rng_of(34)
        for marks, states in [(2, 2), (3, 3), (8, 40), (2, 40), (8, 1)]:
            machine = Tape(marks, states, some_rows(rng, marks, states, 100))
            stair = History(machine)
            configuration = (rng.randrange(states),) + some_tape(rng, marks)
            run = tape_run(machine, configuration, 100)
            past = tuple((c[0], c[2]) for c in run[:-1])
            lower = stair.down(configuration, ())
            for at, upper in enumerate(run):
                self.assertEqual(stair.lower.run(lower, 4 * at), (stair.down(upper, past[:at]), 4 * at))
                self.assertEqual(stair.up(stair.lower.run(lower, 4 * at)[0]), (upper, past[:at]))
            end = stair.down(run[-1], past)
            self.assertEqual(stair.lower.run_back(end, 4 * len(past)), (lower, 4 * len(past)))

    def test_before_an_empty_past(self):
        for machine in small_machines():
            stair = History(machine)
            for configuration in configurations(machine):
                lower = stair.down(configuration, ())
                entering = (machine.states + configuration[0], (configuration[1:], ((), 0, ())))
                self.assertEqual(stair.lower.back(lower), entering)
                self.assertIsNone(stair.lower.back(entering))
                self.assertEqual(stair.lower.run_back(lower, 10), (entering, 1))

    def test_before_a_past(self):
        stair = History(Tape(2, 2, COUNTER))
        lower = stair.down((1, (), 1, ()), ((0, 0),))
        self.assertEqual(stair.lower.back(lower), (3, (((), 1, ()), ((), 1, ()))))


class Undone(unittest.TestCase):
    def test_all_pairs(self):
        found = 0
        for machine in small_machines():
            for configuration in configurations(machine):
                earlier = {(c[0], c[2]): c for c in before(machine, configuration)}
                for pair in pairs_of(machine):
                    if pair in earlier:
                        self.assertEqual(undone(machine, configuration, pair), earlier[pair])
                        found += 1
                    else:
                        with self.assertRaises(BadPast):
                            undone(machine, configuration, pair)
        self.assertGreater(found, 100)

    def test_leads_back(self):
        rng = rng_of(35)
        for marks, states in [(2, 1), (3, 3), (8, 40)]:
            machine = Tape(marks, states, some_rows(rng, marks, states))
            for _ in range(300):
                configuration = (rng.randrange(states),) + some_tape(rng, marks)
                after = tape_step(machine.table(), marks, configuration)
                if after is not None:
                    self.assertEqual(undone(machine, after, (configuration[0], configuration[2])), configuration)

    def test_each_reason(self):
        machine = Tape(2, 2, COUNTER)
        self.assertEqual(undone(machine, (1, (1,), 1, ()), (0, 0)), (0, (), 0, (1,)))
        self.assertEqual(undone(machine, (0, (), 1, ()), (0, 1)), (0, (1,), 1, ()))
        for configuration, pair in [
                ((1, (1,), 1, ()), (1, 0)), ((0, (1,), 1, ()), (1, 0)), ((0, (1,), 1, ()), (0, 0)),
                ((1, (1,), 1, ()), (0, 1)), ((1, (), 1, ()), (0, 0)), ((1, (0, 1), 1, (1,)), (0, 0)),
                ((0, (), 1, (1,)), (0, 1)), ((0, (1, 1), 0, (1, 1)), (0, 1))]:
            with self.assertRaises(BadPast):
                undone(machine, configuration, pair)

    def test_no_pairs(self):
        machine = Tape(2, 2, COUNTER)
        for configuration in [(0, (), 0, ()), (1, (1,), 0, ()), (1, (1,), 1, (1,))]:
            for wrong in NO_PAIRS:
                with self.assertRaises(BadPast, msg=repr(wrong)):
                    undone(machine, configuration, wrong)


def trails(machine, configuration, past):
    """Return the runs with a past that end in a configuration, by a look at all configurations before."""
    runs = [[configuration]]
    for pair in reversed(past):
        runs = [[c] + run for run in runs for c in before(machine, run[0]) if (c[0], c[2]) == pair]
    return runs


class Trail(unittest.TestCase):
    def check(self, machine, configuration, past):
        """Return whether there is such a run."""
        runs = trails(machine, configuration, past)
        self.assertLessEqual(len(runs), 1)
        if runs:
            self.assertEqual(trail(machine, configuration, past), runs[0])
        else:
            with self.assertRaises(BadPast):
                trail(machine, configuration, past)
        return bool(runs)

    def test_empty(self):
        for machine in small_machines():
            for configuration in configurations(machine):
                self.assertEqual(trail(machine, configuration, ()), [configuration])

    def test_runs(self):
        rng = rng_of(36)
        for marks, states in [(2, 2), (3, 3), (8, 40), (2, 40), (8, 2)]:
            machine = Tape(marks, states, some_rows(rng, marks, states, 50))
            for _ in range(5):
                run = tape_run(machine, (rng.randrange(states),) + some_tape(rng, marks), 60)
                past = tuple((c[0], c[2]) for c in run[:-1])
                found = trail(machine, run[-1], past)
                self.assertEqual(found, run)
                self.assertEqual(len(found), len(past) + 1)
                for at in range(len(past)):
                    self.assertEqual(trail(machine, run[-1], past[at:]), run[at:])

    def test_pasts_with_something_wrong(self):
        rng = rng_of(37)
        right = wrong = 0
        for machine in small_machines():
            for configuration in configurations(machine, 1):
                run = tape_run(machine, configuration, 5)
                past = tuple((c[0], c[2]) for c in run[:-1])
                self.assertTrue(self.check(machine, run[-1], past))
                others = [past[:at] + past[at + 1:] for at in range(len(past))]
                others += [past[:at] + (pair,) + past[at + 1:] for at in range(len(past)) for pair in pairs_of(machine)]
                others += [past[:at] + (pair,) + past[at:] for at in range(len(past) + 1) for pair in pairs_of(machine)]
                for other in rng.sample(others, min(30, len(others))):
                    if self.check(machine, run[-1], other):
                        right += 1
                    else:
                        wrong += 1
        self.assertGreater(right, 50)
        self.assertGreater(wrong, 50)

    def test_all_short_pasts(self):
        for machine in small_machines()[:4]:
            for configuration in configurations(machine, 1):
                for past in pasts(machine, 2):
                    self.check(machine, configuration, past)

    def test_pasts_with_no_pairs(self):
        machine = Tape(2, 2, COUNTER)
        end = machine.run(machine.begin((1, 1)), 2)[0]
        self.assertEqual(len(trail(machine, end, ((0, 1), (0, 0)))), 3)
        for odd in NO_PAIRS:
            for past in [(odd,), (odd, (0, 0)), ((0, 1), odd), (odd, (0, 1), (0, 0))]:
                with self.assertRaises(BadPast, msg=repr(odd)):
                    trail(machine, end, past)

    def test_past_of_another_end(self):
        machine = Tape(2, 1, CLEARER)
        past = past_of(machine, machine.begin((1, 1, 1)), 5)
        self.assertEqual(past, ((0, 1),) * 3)
        self.assertEqual(trail(machine, (0, (), 0, (1,)), past),
                         [(0, (), 1, (1, 1, 0, 1)), (0, (), 1, (1, 0, 1)), (0, (), 1, (0, 1)), (0, (), 0, (1,))])
        with self.assertRaises(BadPast):
            trail(machine, (0, (0, 1), 0, ()), past)


class PastOf(unittest.TestCase):
    def test_written_out(self):
        machine = Tape(2, 2, COUNTER)
        begin = machine.begin((1,))
        self.assertEqual(past_of(machine, begin, 0), ())
        self.assertEqual(past_of(machine, begin, 1), ((0, 1),))
        self.assertEqual(past_of(machine, begin, 2), ((0, 1), (0, 0)))
        for many in (3, 4, 100):
            self.assertEqual(past_of(machine, begin, many), ((0, 1), (0, 0)))

    def test_runs(self):
        rng = rng_of(38)
        for marks, states in [(2, 2), (3, 3), (8, 40), (2, 40)]:
            machine = Tape(marks, states, some_rows(rng, marks, states, 20))
            for _ in range(5):
                run = tape_run(machine, (rng.randrange(states),) + some_tape(rng, marks), 40)
                past = tuple((c[0], c[2]) for c in run[:-1])
                for many in (0, 1, 2, len(past) - 1, len(past), len(past) + 1, 100):
                    if 0 <= many <= 40:
                        self.assertEqual(past_of(machine, run[0], many), past[:many])

    def test_a_machine_that_does_not_stop(self):
        machine = Tape(2, 1, [(1, 1, 0), (1, 1, 0)])
        self.assertEqual(past_of(machine, machine.begin(()), 1000), ((0, 0),) * 1000)
