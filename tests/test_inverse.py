"""[0.3], [2.7] to [2.11], [2.15]: machines of several tapes, backwards."""

import itertools
import unittest

from backstair.errors import Clash
from backstair.inverse import clash, inverse, witness
from backstair.several import Several
from tests.oracle import (all_tapes, clash_backwards, first_pair, greatest_rows, rng_of, several_run, several_step,
                          some_configuration, some_several_rows)

TURNER = [("write", 0, (1,), (2,), 1), ("write", 0, (2,), (1,), 1), ("move", 1, (1,), 0), ("write", 0, (0,), (0,), 2)]


def backwards(row):
    """Return a row as the document tells the inverse's."""
    if row[0] == "write":
        return ("write", row[4], row[3], row[2], row[1])
    return ("move", row[3], tuple(-move for move in row[2]), row[1])


def blank(tapes, state, marks=None):
    """Return the configuration in which all is blank but for the marks under the heads."""
    return (state, tuple(((), mark, ()) for mark in marks or (0,) * tapes))


def some_machines(seed, many, both_ways):
    """Return the list of the arguments of some machines."""
    rng = rng_of(seed)
    found = []
    for _ in range(many):
        tapes, marks, states = rng.randrange(1, 5), rng.randrange(2, 4), rng.randrange(1, 7)
        rows = some_several_rows(rng, tapes, marks, states, rng.randrange(30), both_ways)
        found.append((tapes, marks, states, rows))
    return found


class First(unittest.TestCase):
    def check(self, tapes, marks, states, rows):
        self.assertEqual(clash(Several(tapes, marks, states, rows)), first_pair(rows, clash_backwards), repr(rows))

    def test_the_kinds_of_pairs(self):
        for one, two, right in [
                (("write", 0, (0,), (1,), 2), ("write", 1, (0,), (1,), 2), True),
                (("write", 0, (0,), (1,), 2), ("write", 0, (1,), (1,), 2), True),
                (("write", 0, (0,), (1,), 2), ("write", 1, (0,), (0,), 2), False),
                (("write", 0, (0,), (1,), 2), ("write", 1, (0,), (1,), 1), False),
                (("write", 0, (0,), (1,), 2), ("move", 1, (1,), 2), True),
                (("write", 0, (0,), (1,), 2), ("move", 1, (1,), 1), False),
                (("move", 0, (0,), 2), ("move", 1, (1,), 2), True),
                (("move", 0, (0,), 2), ("move", 1, (0,), 2), True),
                (("move", 0, (0,), 2), ("move", 1, (0,), 0), False)]:
            self.assertEqual(clash(Several(1, 2, 3, [one, two])), (0, 1) if right else None)
            self.assertEqual(clash(Several(1, 2, 3, [two, one])), (0, 1) if right else None)

    def test_none_or_one_row(self):
        for rows in [[], [("move", 0, (0, 0), 0)], [("write", 0, (0, 1), (1, 1), 0)]]:
            self.assertIsNone(clash(Several(2, 2, 1, rows)))

    def test_the_least_pair(self):
        away = [("write", 7, (at,), (at,), 8) for at in (0, 1)]
        same = [("write", state, (0,), (1,), 3) for state in (0, 1, 2)]
        other = [("write", state, (0,), (0,), 3) for state in (4, 5)]
        move = ("move", 6, (-1,), 3)
        for rows in [same, same + other, other + same, [same[0], other[0], same[1], other[1]], away + same + [move],
                     [other[0], same[0], move, same[1]], [same[0]] + away + [other[0], other[1], same[1]],
                     [move] + away + [same[0]], [same[0], other[0], away[0], move, same[1]]]:
            self.check(1, 2, 9, rows)

    def test_against_all_pairs(self):
        for tapes, marks, states, rows in some_machines(31, 1500, False):
            self.check(tapes, marks, states, rows)

    def test_the_pair_is_of_integers(self):
        pair = clash(Several(1, 2, 3, [("move", 0, (0,), 2), ("move", 1, (1,), 2)]))
        self.assertIsInstance(pair, tuple)
        self.assertEqual(pair, (0, 1))


class Witness(unittest.TestCase):
    def check(self, tapes, marks, states, rows):
        machine = Several(tapes, marks, states, rows)
        pair = first_pair(rows, clash_backwards)
        if pair is None:
            self.assertIsNone(witness(machine))
            return
        one, two, both = witness(machine)
        self.assertEqual(several_step(rows, one), (pair[0], both))
        self.assertEqual(several_step(rows, two), (pair[1], both))
        self.assertEqual((machine.step(one), machine.step(two)), (both, both))
        self.assertNotEqual(one, two)
        for configuration in (one, two, both):
            self.assertTrue(machine.is_configuration(configuration))
        writes = [rows[at][3] for at in pair if rows[at][0] == "write"]
        self.assertEqual(both, blank(tapes, rows[pair[0]][-1], writes[0] if writes else None))

    def test_two_write_rows(self):
        rows = [("write", 0, (1, 0), (0, 2), 2), ("write", 1, (2, 2), (0, 2), 2)]
        self.assertEqual(witness(Several(2, 3, 3, rows)),
                         (blank(2, 0, (1, 0)), blank(2, 1, (2, 2)), blank(2, 2, (0, 2))))
        rows = [("write", 0, (1, 0), (0, 2), 2), ("write", 0, (2, 2), (0, 2), 2)]
        self.assertEqual(witness(Several(2, 3, 3, rows)),
                         (blank(2, 0, (1, 0)), blank(2, 0, (2, 2)), blank(2, 2, (0, 2))))

    def test_a_write_and_a_move_row(self):
        rows = [("write", 0, (1, 0, 1), (2, 2, 0), 2), ("move", 1, (1, -1, 0), 2)]
        both = blank(3, 2, (2, 2, 0))
        one = blank(3, 0, (1, 0, 1))
        two = (1, (((), 0, (2,)), ((2,), 0, ()), ((), 0, ())))
        self.assertEqual(witness(Several(3, 3, 3, rows)), (one, two, both))
        self.assertEqual(witness(Several(3, 3, 3, rows[::-1])), (two, one, both))

    def test_two_move_rows(self):
        rows = [("move", 0, (1, -1, 0), 2), ("move", 1, (0, 0, 1), 2)]
        self.assertEqual(witness(Several(3, 2, 3, rows)), (blank(3, 0), blank(3, 1), blank(3, 2)))

    def test_each_kind_in_some_machines(self):
        kinds = set()
        for tapes, marks, states, rows in some_machines(32, 1000, False):
            self.check(tapes, marks, states, rows)
            pair = first_pair(rows, clash_backwards)
            if pair is not None:
                kinds.add((rows[pair[0]][0], rows[pair[1]][0]))
        self.assertEqual(len(kinds), 4)

    def test_none(self):
        self.assertIsNone(witness(Several(1, 2, 1, [])))
        self.assertIsNone(witness(Several(1, 3, 3, TURNER)))
        for tapes, marks, states, rows in some_machines(33, 100, True):
            self.check(tapes, marks, states, rows)


class Inverse(unittest.TestCase):
    def test_the_rows(self):
        machine = Several(2, 3, 3, [("write", 0, (1, 0), (0, 2), 2), ("move", 2, (1, 0), 0), ("move", 1, (0, -1), 1)])
        other = inverse(machine)
        self.assertIsInstance(other, Several)
        self.assertEqual((other.tapes, other.marks, other.states), (2, 3, 3))
        rows = [("write", 2, (0, 2), (1, 0), 0), ("move", 0, (-1, 0), 2), ("move", 1, (0, 1), 1)]
        self.assertEqual(other.table(), rows)

    def test_the_rows_of_some_machines(self):
        for tapes, marks, states, rows in some_machines(34, 300, True):
            machine = Several(tapes, marks, states, rows)
            other = inverse(machine)
            self.assertEqual((other.tapes, other.marks, other.states), (tapes, marks, states))
            self.assertEqual(other.table(), [backwards(row) for row in rows])
            self.assertEqual(inverse(other).table(), rows)
            self.assertEqual(machine.table(), rows)
            self.assertIsNone(clash(other))

    def test_back_is_the_step_of_the_inverse(self):
        rng = rng_of(35)
        for tapes, marks, states, rows in some_machines(36, 300, True):
            machine = Several(tapes, marks, states, rows)
            other = inverse(machine)
            turned = [backwards(row) for row in rows]
            for _ in range(8):
                configuration = some_configuration(rng, tapes, marks, states)
                source = several_step(turned, configuration)[1]
                self.assertEqual(machine.back(configuration), source)
                self.assertEqual(other.step(configuration), source)
                self.assertEqual(other.back(configuration), several_step(rows, configuration)[1])
                if source is not None:
                    self.assertEqual(machine.step(source), configuration)
                after = machine.step(configuration)
                if after is not None:
                    self.assertEqual(machine.back(after), configuration)

    def test_back_finds_what_leads_here(self):
        for tapes, marks, states, rows in [(1, 3, 3, TURNER)] + [
                machine for machine in some_machines(37, 200, True) if machine[0] == 1 and machine[1] == 2]:
            machine = Several(tapes, marks, states, rows)
            sources = {}
            for state in range(states):
                for tape in all_tapes(marks, 2):
                    after = several_step(rows, (state, (tape,)))[1]
                    self.assertNotIn(after, [source for source in sources if source is not None])
                    sources[after] = (state, (tape,))
            for state in range(states):
                for tape in all_tapes(marks, 1):
                    self.assertEqual(machine.back((state, (tape,))), sources.get((state, (tape,))))

    def test_forth_and_back_again(self):
        rng = rng_of(38)
        for tapes, marks, states, rows in some_machines(39, 300, True):
            machine = Several(tapes, marks, states, rows)
            turned = [backwards(row) for row in rows]
            for _ in range(4):
                begin = some_configuration(rng, tapes, marks, states)
                for steps in (0, 1, 7, 30):
                    end, taken = machine.run(begin, steps)
                    self.assertEqual(machine.run_back(end, taken), (begin, taken))
                    self.assertEqual(inverse(machine).run(end, taken), (begin, taken))
                run = several_run(turned, begin, 12)
                for steps in (0, 1, 5, 12):
                    taken = min(steps, len(run) - 1)
                    self.assertEqual(machine.run_back(begin, steps), (run[taken], taken))
                    self.assertEqual(machine.run(run[taken], taken), (begin, taken))

    def test_run_back_of_more_steps_than_there_are(self):
        machine = Several(1, 3, 3, TURNER)
        end = (2, (((1, 2), 0, ()),))
        # One step before the run from a word, the head stood to the left of the word.
        first = (1, (((), 0, (1, 2)),))
        self.assertEqual(machine.run_back(end, 5), (machine.begin(((1, 2),)), 5))
        for steps in (6, 7, 1000, 10 ** 18):
            self.assertEqual(machine.run_back(end, steps), (first, 6))
        self.assertEqual(machine.run_back(first, 9), (first, 0))
        self.assertIsNone(machine.back(first))
        self.assertEqual(machine.run_back(end, 0), (end, 0))

    def test_machines_that_do_not_go_both_ways(self):
        rng = rng_of(40)
        many = 0
        for tapes, marks, states, rows in some_machines(41, 600, False):
            pair = first_pair(rows, clash_backwards)
            machine = Several(tapes, marks, states, rows)
            if pair is None:
                inverse(machine)
                continue
            many += 1
            configuration = some_configuration(rng, tapes, marks, states)
            for call in [lambda: inverse(machine), lambda: machine.back(configuration),
                         lambda: machine.run_back(configuration, 3), lambda: machine.run_back(configuration, 0),
                         lambda: machine.back(blank(tapes, 0)), lambda: machine.run_back(blank(tapes, 0), 1)]:
                with self.assertRaises(Clash) as caught:
                    call()
                self.assertEqual((caught.exception.first, caught.exception.second), pair)
            run = several_run(rows, configuration, 5)
            self.assertEqual(machine.run(configuration, 5), (run[-1], len(run) - 1))
        self.assertGreater(many, 100)

    def test_the_test_is_exact(self):
        # All machines of one tape, two marks and two states with at most two rows.
        words = [(0,), (1,)]
        rows = [("write", state, reads, writes, after) for state in (0, 1) for reads in words for writes in words
                for after in (0, 1)]
        rows += [("move", state, (move,), after) for state in (0, 1) for move in (-1, 0, 1) for after in (0, 1)]
        tapes = all_tapes(2, 2)
        for pair in itertools.combinations(rows, 2):
            try:
                machine = Several(1, 2, 2, list(pair))
            except Clash:
                continue
            steps = [machine.step((state, (tape,))) for state in (0, 1) for tape in tapes]
            led = [after for after in steps if after is not None]
            self.assertIs(clash(machine) is None, len(led) == len(set(led)))


class Example(unittest.TestCase):
    def test_the_turner(self):
        machine = Several(1, 3, 3, TURNER)
        self.assertIsNone(clash(machine))
        self.assertIsNone(witness(machine))
        run = [machine.begin(((1, 2),)), (1, (((), 2, (2,)),)), (0, (((2,), 2, ()),)), (1, (((2,), 1, ()),)),
               (0, (((1, 2), 0, ()),)), (2, (((1, 2), 0, ()),))]
        for at, configuration in enumerate(run):
            self.assertEqual(machine.run(run[0], at), (configuration, at))
            self.assertEqual(machine.run_back(configuration, at), (run[0], at))
            self.assertEqual(machine.run_back(run[5], 5 - at), (configuration, 5 - at))
            self.assertIs(machine.stopped(configuration), at == 5)
        self.assertEqual(machine.run(run[0], 100), (run[5], 5))
        self.assertIsNone(machine.step(run[5]))
        for at in range(5):
            self.assertEqual(machine.step(run[at]), run[at + 1])
            self.assertEqual(machine.back(run[at + 1]), run[at])


class Greatest(unittest.TestCase):
    def test_made_turned_and_run(self):
        rows = greatest_rows()
        machine = Several(4, 400, 5000, rows)
        self.assertIsNone(clash(machine))
        self.assertIsNone(witness(machine))
        other = inverse(machine)
        self.assertEqual(other.table(), [backwards(row) for row in rows])
        self.assertEqual(inverse(other).table(), rows)
        begin = machine.begin(((1, 2), (57, 114), (), (1, 2)))
        end, taken = machine.run(begin, 6000)
        self.assertEqual(taken, 6000)
        self.assertEqual(machine.run_back(end, 6000), (begin, 6000))
        self.assertEqual(other.run(end, 6000), (begin, 6000))
        self.assertEqual(other.run_back(begin, 6000), (end, 6000))
        self.assertEqual(machine.back(machine.step(end)), end)
        self.assertEqual(machine.step(machine.back(end)), end)

    def test_clashes(self):
        rows = greatest_rows()
        for at, row in [(19998, ("write", 4998, (399,) * 4, rows[19994][3], 4999)),
                        (19999, ("move", 4999, (0,) * 4, 1)),
                        (12345, ("write",) + rows[12345][1:3] + rows[12344][3:])]:
            changed = rows[:at] + [row] + rows[at + 1:]
            machine = Several(4, 400, 5000, changed)
            first = [i for i in range(20000) if i != at and clash_backwards(changed[i], row)][0]
            pair = (min(first, at), max(first, at))
            self.assertEqual(clash(machine), pair)
            one, two, both = witness(machine)
            self.assertEqual((machine.step(one), machine.step(two)), (both, both))
            self.assertNotEqual(one, two)
            with self.assertRaises(Clash) as caught:
                inverse(machine)
            self.assertEqual((caught.exception.first, caught.exception.second), pair)
