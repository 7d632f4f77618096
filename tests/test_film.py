"""[0.5], [7.1] to [7.9]: films of ordinary machines."""

import itertools
import time
import unittest

from backstair.errors import BackError, BadMark, BadParts
from backstair.film import Film, lost, parted
from backstair.flystair import FlyStair, past
from backstair.forget import before, clashes, forgets
from backstair.tape import Tape
from tests.oracle import all_tapes, rng_of, some_rows, some_tape, tape_run

CLEARER = [None, (0, 1, 0)]
COUNTER = [(1, 1, 1), (0, -1, 0), None, (1, 1, 1)]
BEAVER = [(1, 1, 1), (1, -1, 1), (1, -1, 0), None]
# What is no word of a machine with two marks.
NO_WORDS = [(2,), (0, -1), (0, True), (False,), (None,), ("0",), (0, (0,)), (1.0,), (0, 10 ** 30)]


def machines():
    """Return machines whose films are not too great."""
    rng = rng_of(161)
    found = [Tape(2, 1, CLEARER), Tape(2, 2, COUNTER), Tape(2, 2, BEAVER), Tape(2, 1, [None, None]),
             Tape(2, 1, [(1, 1, 0), (0, -1, 0)]), Tape(2, 2, [(1, 1, 1), (1, -1, 1), (1, -1, 0), (0, 1, 0)])]
    for marks, states in [(2, 3), (3, 2), (2, 5), (4, 2), (8, 1)]:
        found.append(Tape(marks, states, some_rows(rng, marks, states, 5)))
        found.append(Tape(marks, states, some_rows(rng, marks, states, 10 ** 9)))
    return found


def words(rng, machine, many=6):
    """Return some words of a machine, the empty one and such with blanks at their end among them."""
    found = [(), (0,), (0, 0, 0), (1,), (0, 1), (1, 0), (1, 1, 0, 0)]
    return found + [tuple(rng.randrange(machine.marks) for _ in range(rng.randrange(6))) for _ in range(many)]


def without_blanks(word):
    """Return a word without the blanks at its end."""
    while word and word[-1] == 0:
        word = word[:-1]
    return word


class Lines(unittest.TestCase):
    def test_attributes(self):
        for machine in machines():
            rows = machine.table()
            film = Film(machine)
            self.assertIs(film.machine, machine)
            self.assertIsInstance(film.stair, FlyStair)
            self.assertEqual(film.stair.upper.table(), rows)
            self.assertEqual(film.stair.lower.sizes, FlyStair(machine).lower.sizes)

    def test_too_great(self):
        for marks, states, right in [(2, 9, True), (2, 10, False), (8, 4, True), (8, 5, False), (8, 40, False), (3, 7, True), (3, 8, False)]:
            machine = Tape(marks, states, [(0, 1, 0)] * (marks * states))
            if right:
                self.assertEqual(Film(machine).answer((1,), 3), ((0, (), 0, ()), 3, (1,)))
            else:
                with self.assertRaises(BadParts):
                    Film(machine)
        self.assertTrue(issubclass(BadParts, BackError))

    def test_start_and_shown(self):
        rng = rng_of(162)
        for machine in machines():
            film = Film(machine)
            for word in words(rng, machine):
                line = film.start(word)
                self.assertEqual(line, FlyStair(machine).down(machine.begin(word)))
                self.assertEqual(film.shown(line), machine.begin(word))
                if not machine.stopped(machine.begin(word)):
                    self.assertIsNone(film.shown(film.forward(line, 1)))
            self.assertIsNone(film.shown(()))
            self.assertIsNone(film.shown(((0, 1, 0),)))
            self.assertIsNone(film.shown(((0, machine.marks, 0), (0, machine.marks, 0))))

    def test_words_with_other_marks(self):
        film = Film(Tape(2, 1, CLEARER))
        for wrong in NO_WORDS:
            with self.assertRaises(BadMark, msg=repr(wrong)):
                film.start(wrong)
            with self.assertRaises(BadMark, msg=repr(wrong)):
                film.answer(wrong, 0)

    def test_forward_and_backward(self):
        rng = rng_of(163)
        for machine in machines():
            film = Film(machine)
            for word in words(rng, machine, 2):
                line = film.start(word)
                for steps in (0, 1, 2, 7, 20):
                    there = film.forward(line, steps)
                    self.assertEqual(there, film.stair.lower.run(line, steps))
                    self.assertEqual(film.backward(there, steps), line)
                    self.assertEqual(film.backward(line, steps), film.stair.lower.run_back(line, steps))
                    self.assertEqual(film.forward(film.backward(line, steps), steps), line)


class Moments(unittest.TestCase):
    def test_of_runs(self):
        rng = rng_of(164)
        for machine in machines():
            film = Film(machine)
            for word in words(rng, machine, 3):
                run = tape_run(machine, machine.begin(word), 8)
                line = film.start(word)
                many = len(run) - 1
                expected = [(2 * n, upper) for n, upper in enumerate(run)]
                found = film.moments(line, 0, 2 * many)
                self.assertEqual(found, expected)
                self.assertIsInstance(found, list)
                # From a later line the same is told, with other numbers.
                later = film.forward(line, 2 * many)
                self.assertEqual(film.moments(later, -2 * many, 0), [(n - 2 * many, upper) for n, upper in expected])
                middle = film.forward(line, many)
                self.assertEqual(film.moments(middle, -many, many), [(n - many, upper) for n, upper in expected])
                for n, upper in expected:
                    self.assertEqual(past(film.stair, film.forward(line, n)), run[:n // 2 + 1][::-1])

    def test_by_the_words(self):
        rng = rng_of(165)
        for machine in machines():
            film = Film(machine)
            for word in words(rng, machine, 1):
                line = film.start(word)
                for first, last in [(-3, 4), (0, 0), (1, 1), (-1, -1), (2, 5), (-6, -2), (5, 5), (-4, 0)]:
                    expected = []
                    for n in range(first, last + 1):
                        there = film.forward(line, n) if n >= 0 else film.backward(line, -n)
                        if film.shown(there) is not None:
                            expected.append((n, film.shown(there)))
                    self.assertEqual(film.moments(line, first, last), expected)

    def test_written_out(self):
        film = Film(Tape(2, 1, CLEARER))
        line = film.start((1, 1))
        expected = [(0, (0, (), 1, (1,))), (2, (0, (), 1, ())), (4, (0, (), 0, ()))]
        self.assertEqual(film.moments(line, 0, 4), expected)
        self.assertEqual(film.moments(line, 1, 3), expected[1:2])
        self.assertEqual(film.moments(line, 2, 2), expected[1:2])
        self.assertEqual(film.moments(line, 3, 3), [])
        self.assertEqual(film.moments(film.forward(line, 3), -3, -1), [(-3, expected[0][1]), (-1, expected[1][1])])

    def test_of_lines_that_mean_nothing(self):
        film = Film(Tape(2, 1, CLEARER))
        for line in [(), ((0, 1, 0),), ((1, 0, 0),), ((0, 1, 0), (2, 0, 0), (0, 1, 0))]:
            self.assertEqual(film.moments(line, -5, 5), [])
            self.assertEqual(film.moments(line, 0, 0), [])

    def test_what_comes_back_may_be_changed(self):
        film = Film(Tape(2, 1, CLEARER))
        line = film.start((1, 1))
        film.moments(line, 0, 4).clear()
        self.assertEqual(len(film.moments(line, 0, 4)), 3)


class Answers(unittest.TestCase):
    def test_example(self):
        self.assertEqual(Film(Tape(2, 1, CLEARER)).answer((1, 1), 5), ((0, (), 0, ()), 2, (1, 1)))

    def test_against_the_model(self):
        rng = rng_of(166)
        earlier = later = 0
        for machine in machines():
            film = Film(machine)
            for word in words(rng, machine):
                for steps in (0, 1, 2, 3, 9):
                    run = tape_run(machine, machine.begin(word), steps)
                    taken = len(run) - 1
                    found = film.answer(word, steps)
                    self.assertEqual(found, (run[-1], taken, without_blanks(word)))
                    self.assertIsInstance(found, tuple)
                    self.assertEqual(found[:2], machine.run(machine.begin(word), steps))
                    earlier += taken < steps
                    later += taken == steps
        self.assertGreater(earlier, 50)
        self.assertGreater(later, 50)

    def test_machines_that_stop_earlier_just_then_and_later(self):
        film = Film(Tape(2, 1, CLEARER))
        for many in range(6):
            word = (1,) * many
            for steps in range(9):
                taken = min(many, steps)
                end = (0, (), 1, (1,) * (many - taken - 1)) if taken < many else (0, (), 0, ())
                for blanks in range(3):
                    self.assertEqual(film.answer(word + (0,) * blanks, steps), (end, taken, word))

    def test_a_machine_that_stops_early_is_not_run_on(self):
        film = Film(Tape(2, 1, CLEARER))
        self.assertEqual(film.answer((1, 1), 10 ** 9), ((0, (), 0, ()), 2, (1, 1)))
        self.assertEqual(film.answer((), 10 ** 30), ((0, (), 0, ()), 0, ()))

    def test_a_long_run(self):
        machine = Tape(2, 2, [(1, 1, 1), (1, -1, 1), (1, -1, 0), (0, 1, 0)])
        expected = machine.run(machine.begin((1, 0, 1, 1)), 300)
        self.assertEqual(Film(machine).answer((1, 0, 1, 1), 300), expected + ((1, 0, 1, 1),))


class Parted(unittest.TestCase):
    def test_at_once(self):
        machine = Tape(2, 1, [(0, 1, 0), (0, 1, 0)])
        for one, two in [((0, (), 0, ()), (0, (), 1, ())), ((0, (1,), 1, (1,)), (0, (1,), 0, (1,)))]:
            for steps in (1, 2, 100):
                self.assertEqual(parted(machine, one, two, steps), 1)
            self.assertEqual(parted(machine, one, two, 0), -1)

    def test_after_several(self):
        machine = Tape(2, 1, [(0, 1, 0), (0, 1, 0)])
        for many in range(1, 9):
            # The mark that differs is met only with the last of these steps.
            one = (0, (), 0, (0,) * (many - 2) + (1,)) if many > 1 else (0, (), 1, ())
            two = (0, (), 0, ())
            for steps in range(12):
                self.assertEqual(parted(machine, one, two, steps), many if steps >= many else -1)
                self.assertEqual(parted(machine, two, one, steps), many if steps >= many else -1)

    def test_never(self):
        machine = Tape(2, 1, [(0, 1, 0), (1, 1, 0)])
        self.assertEqual(parted(machine, (0, (), 0, ()), (0, (), 1, ()), 50), -1)
        self.assertEqual(parted(machine, (0, (1,), 0, ()), (0, (), 0, ()), 50), -1)

    def test_stops(self):
        # Both come to the same configuration, but not after equally many steps.
        machine = Tape(2, 1, CLEARER)
        self.assertEqual(parted(machine, (0, (), 1, ()), (0, (), 0, ()), 5), -1)
        self.assertEqual(parted(machine, (0, (), 0, ()), (0, (), 1, ()), 5), -1)
        self.assertEqual(parted(machine, (0, (), 0, ()), (0, (), 0, (1,)), 10 ** 9), -1)
        self.assertEqual(parted(machine, (0, (), 1, (1,)), (0, (), 0, ()), 10 ** 9), -1)
        # Both have stopped just when they meet, or before they would.
        both = Tape(3, 2, [(0, 1, 1), (0, 1, 1), (0, 1, 1), None, None, None])
        self.assertEqual(parted(both, (0, (), 1, ()), (0, (), 2, ()), 10 ** 9), 1)
        self.assertEqual(parted(both, (0, (), 1, (1,)), (0, (), 1, (2,)), 10 ** 9), -1)

    def test_against_the_model(self):
        rng = rng_of(167)
        kinds = {}
        for _ in range(60):
            marks, states = rng.randrange(2, 4), rng.randrange(1, 4)
            machine = Tape(marks, states, some_rows(rng, marks, states, 8))
            for _ in range(40):
                one = (rng.randrange(states),) + some_tape(rng, marks, 2)
                two = (rng.randrange(states),) + some_tape(rng, marks, 2)
                if one == two:
                    continue
                runs = list(zip(tape_run(machine, one, 9), tape_run(machine, two, 9)))
                for steps in (0, 1, 4, 9):
                    meet = [n for n, (here, there) in enumerate(runs[:steps + 1]) if here == there]
                    expected = meet[0] if meet else -1
                    self.assertEqual(parted(machine, one, two, steps), expected)
                    kinds[expected] = kinds.get(expected, 0) + 1
        self.assertGreaterEqual(len(kinds), 4)

    def test_lines_never_become_equal(self):
        machine = Tape(2, 1, [(0, 1, 0), (0, 1, 0)])
        film = Film(machine)
        one, two = film.stair.down((0, (), 0, ())), film.stair.down((0, (), 1, ()))
        for steps in range(30):
            self.assertNotEqual(film.forward(one, steps), film.forward(two, steps))
        self.assertEqual(film.shown(film.forward(one, 2)), film.shown(film.forward(two, 2)))


class Lost(unittest.TestCase):
    def slowly(self, machine, configuration, steps):
        """Return the number of pasts, going through each one."""
        found = [configuration]
        for _ in range(steps):
            found = [earlier for later in found for earlier in before(machine, later)]
        self.assertEqual(len(set(found)), len(found))
        return len(found)

    def test_against_the_model(self):
        rng = rng_of(168)
        counts = set()
        for _ in range(250):
            marks, states = rng.randrange(2, 5), rng.randrange(1, 5)
            written = rng.randrange(1, marks + 1)
            rows = [None if rng.randrange(6) == 0 else (rng.randrange(written), rng.choice((-1, 1)), rng.randrange(states))
                    for _ in range(marks * states)]
            machine = Tape(marks, states, rows)
            for _ in range(3):
                configuration = (rng.randrange(states),) + some_tape(rng, marks)
                for steps in range(5):
                    expected = self.slowly(machine, configuration, steps)
                    self.assertEqual(lost(machine, configuration, steps), expected)
                    counts.add(expected)
            self.assertEqual(machine.table(), rows)
        self.assertGreater(len(counts), 30)

    def test_all_runs_that_lead_here(self):
        # By a look at all beginnings whose tape is short enough.
        for rows in [[(0, 1, 0), (0, 1, 0)], [(0, 1, 0), (0, -1, 0)], [(1, -1, 0), (1, 1, 0)], [(1, 1, 0), (0, -1, 0)],
                     [(0, -1, 0), None], [(1, -1, 1), (0, 1, 0), (1, 1, 0), (1, -1, 1)], BEAVER, COUNTER]:
            machine = Tape(2, len(rows) // 2, rows)
            begins = [(state,) + tape for state in range(machine.states) for tape in all_tapes(2, 5)]
            for steps in range(4):
                ends = {}
                for begin in begins:
                    end, taken = machine.run(begin, steps)
                    if taken == steps:
                        ends[end] = ends.get(end, 0) + 1
                for tape in all_tapes(2, 1):
                    for state in range(machine.states):
                        self.assertEqual(lost(machine, (state,) + tape, steps), ends.get((state,) + tape, 0))

    def test_many_steps(self):
        rng = rng_of(169)
        for _ in range(40):
            marks, states = rng.randrange(2, 4), rng.randrange(1, 4)
            machine = Tape(marks, states, some_rows(rng, marks, states))
            configuration = (rng.randrange(states),) + some_tape(rng, marks, 8)
            for steps in range(5, 13):
                expected = self.slowly(machine, configuration, steps) if steps < 9 else None
                found = lost(machine, configuration, steps)
                if expected is not None:
                    self.assertEqual(found, expected)
                else:
                    earlier = sum(lost(machine, other, steps - 1) for other in before(machine, configuration))
                    self.assertEqual(found, earlier)

    def test_no_steps(self):
        for machine in machines():
            self.assertEqual(lost(machine, (0, (), 1, (1,)), 0), 1)

    def test_machines_that_forget_nothing(self):
        rng = rng_of(170)
        found = 0
        while found < 40:
            marks, states = rng.randrange(2, 4), rng.randrange(1, 4)
            machine = Tape(marks, states, some_rows(rng, marks, states))
            if clashes(machine):
                continue
            self.assertFalse(forgets(machine))
            found += 1
            for _ in range(5):
                configuration = (rng.randrange(states),) + some_tape(rng, marks)
                counts = [lost(machine, configuration, steps) for steps in range(13)]
                self.assertLessEqual(max(counts), 1)
                self.assertEqual(counts, sorted(counts, reverse=True))

    def test_written_out(self):
        # Clears whatever is there, to the right: the marks on the left may have been anything, but are blank now.
        machine = Tape(2, 1, [(0, 1, 0), (0, 1, 0)])
        for steps in range(13):
            self.assertEqual(lost(machine, (0, (), 1, (0, 1)), steps), 2 ** steps)
            self.assertEqual(lost(machine, (0, (0, 0, 1), 1, (0, 1)), steps), 2 ** steps if steps < 3 else 0)
        self.assertEqual(lost(Tape(2, 1, CLEARER), (0, (), 0, ()), 12), 1)
        self.assertEqual(lost(Tape(2, 1, CLEARER), (0, (1,), 0, ()), 1), 0)

    def test_great_numbers(self):
        rng = rng_of(171)
        start = time.monotonic()
        machine = Tape(8, 40, [(0, 1, 0)] * 320)
        for steps in range(1, 13):
            self.assertEqual(lost(machine, (0, (), 3, (1, 2)), steps), 40 * 8 ** steps)
        self.assertEqual(lost(machine, (1, (), 0, ()), 12), 0)
        machine = Tape(8, 1, [(0, -1, 0)] * 8)
        self.assertEqual(lost(machine, (0, (7,), 3, ()), 12), 8 ** 12)
        # Each state is kept; half of the marks lead to the right, half of them to the left.
        machine = Tape(8, 40, [(0, 1 if mark % 2 else -1, state) for state in range(40) for mark in range(8)])
        configuration = (5, (), 0, ())
        self.assertEqual(lost(machine, configuration, 3), self.slowly(machine, configuration, 3))
        self.assertEqual(lost(machine, configuration, 12),
                         sum(lost(machine, other, 11) for other in before(machine, configuration)))
        for written, to_left in itertools.product((1, 2, 4, 8), (0, 2, 4, 1)):
            # The marks above `to_left` are cleared to the right, the others are written over to the left.
            rows = [(0, 1, rng.randrange(40)) if mark >= to_left else (rng.randrange(written), -1, rng.randrange(40))
                    for _ in range(40) for mark in range(8)]
            machine = Tape(8, 40, rows)
            self.assertEqual(lost(machine, configuration, 12),
                             sum(lost(machine, other, 11) for other in before(machine, configuration)))
        self.assertLess(time.monotonic() - start, 200)
