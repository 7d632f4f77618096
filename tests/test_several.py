"""[0.2], [0.5], [2.1] to [2.6]: machines of several tapes, forwards."""

import unittest

from backstair.errors import BadMachine, BadMark, Clash
from backstair.several import Several
from tests.oracle import (ODD, all_tapes, clash_forwards, first_pair, greatest_rows, rng_of, several_run, several_step,
                          some_configuration, some_several_row, some_several_rows)

WRITE = ("write", 0, (0, 2), (1, 0), 1)
MOVE = ("move", 1, (-1, 0), 0)
# What is no row of a machine with two tapes, three marks and two states.
NO_ROWS = [
    None, True, False, 0, 1, "", "move", "write", [], {}, (), (0,), ("move",), ("write",), ("move", 0), ("write", 0),
    list(WRITE), list(MOVE), (WRITE,), (MOVE,), ("write", 0, (0, 0), (0, 0)), ("write", 0, (0, 0), (0, 0), 1, 1),
    ("write", 0, (0, 0), 1), ("move", 0, (0, 0)), ("move", 0, (0, 0), 1, 1), ("move", 0, (0, 0), (0, 0), 1),
    ("move", 0, 1), ("read", 0, (0, 0), (0, 0), 1), ("Write", 0, (0, 0), (0, 0), 1), ("moves", 0, (0, 0), 1),
    ("", 0, (0, 0), 1), (None, 0, (0, 0), 1), (0, 0, (0, 0), 1), (b"move", 0, (0, 0), 1), ("turn", 0, (0, 0), 1),
    (0, (0, 0), (0, 0), 1), (0, (0, 0), 1)]
NO_ROWS += [("write", wrong, (0, 0), (0, 0), 1) for wrong in (2, -1, True, False, None, "0", (0,))]
NO_ROWS += [("write", 0, (0, 0), (0, 0), wrong) for wrong in (2, -1, True, False, None, "0", (0,))]
NO_ROWS += [("move", wrong, (0, 0), 1) for wrong in (2, -1, True, False, None, "0", (0,))]
NO_ROWS += [("move", 0, (0, 0), wrong) for wrong in (2, -1, True, False, None, "0", (0,))]
NO_MARKS = [[0, 0], (0,), (), (0, 0, 0), (0, 3), (3, 0), (0, -1), (-1, 0), (True, 0), (0, True), (False, 0), (0, False),
            (None, 0), (0, None), ("0", 0), (0, "0"), (0, (0,)), "00", 0, None, b"\x00\x00", {0: 0, 1: 0}]
NO_ROWS += [("write", 0, wrong, (0, 0), 1) for wrong in NO_MARKS]
NO_ROWS += [("write", 0, (0, 0), wrong, 1) for wrong in NO_MARKS]
NO_MOVES = [[0, 0], (0,), (), (0, 0, 0), (0, 2), (2, 0), (0, -2), (-2, 0), (True, 0), (0, True), (False, 0), (0, False),
            (None, 0), ("1", 0), (0, "left"), (0, (0,)), "00", 1, None]
NO_ROWS += [("move", 0, wrong, 1) for wrong in NO_MOVES]


def many_rows(many):
    """Return a number of rows with which a machine of one tape, 400 marks and 51 states goes both ways."""
    return [("write", at // 400, (at % 400,), ((at + 1) % 400,), at // 400) for at in range(many)]


class Numbers(unittest.TestCase):
    def test_ends_of_the_ranges(self):
        for tapes in (1, 2, 3, 4):
            for marks in (2, 3, 399, 400):
                for states in (1, 2, 4999, 5000):
                    rows = [("write", states - 1, (marks - 1,) * tapes, (marks - 1,) * tapes, states - 1)]
                    machine = Several(tapes, marks, states, rows)
                    self.assertEqual((machine.tapes, machine.marks, machine.states), (tapes, marks, states))
                    self.assertEqual(machine.table(), rows)

    def test_out_of_range(self):
        for tapes, marks, states in [
                (0, 2, 1), (5, 2, 1), (-1, 2, 1), (1, 1, 1), (1, 0, 1), (1, 401, 1), (1, -2, 1), (1, 2, 0),
                (1, 2, 5001), (1, 2, -1), (5, 401, 5001), (0, 0, 0), (10 ** 30, 2, 1), (1, 10 ** 30, 1),
                (1, 2, 10 ** 30)]:
            with self.assertRaises(BadMachine):
                Several(tapes, marks, states, [])

    def test_no_integers(self):
        for odd in [True, False, None, "1", "2", (2,)]:
            for numbers in [(odd, 2, 1), (1, odd, 1), (1, 2, odd)]:
                with self.assertRaises(BadMachine):
                    Several(*numbers, [])

    def test_one_past_the_numbers(self):
        for tapes in (1, 2, 3, 4):
            for marks, states in [(2, 1), (400, 5000), (7, 9)]:
                good, bad = (marks - 1,) * tapes, (0,) * (tapes - 1) + (marks,)
                Several(tapes, marks, states, [("write", 0, good, good, states - 1)])
                for row in [("write", 0, bad, good, 0), ("write", 0, good, bad, 0), ("write", states, good, good, 0),
                            ("write", 0, good, good, states), ("move", states, (0,) * tapes, 0),
                            ("move", 0, (0,) * tapes, states), ("move", 0, (0,) * (tapes + 1), 0),
                            ("move", 0, (0,) * (tapes - 1), 0), ("write", 0, good[1:], good, 0),
                            ("write", 0, good, good + (0,), 0)]:
                    with self.assertRaises(BadMachine):
                        Several(tapes, marks, states, [row])

    def test_no_rows(self):
        machine = Several(4, 400, 5000, [])
        self.assertEqual(machine.table(), [])
        self.assertIs(machine.stopped(machine.begin(((), (), (), ()))), True)


class Rows(unittest.TestCase):
    def test_members_that_are_no_rows(self):
        self.assertEqual(Several(2, 3, 2, [WRITE, MOVE]).table(), [WRITE, MOVE])
        for wrong in NO_ROWS:
            for rows in [[wrong], [wrong, WRITE, MOVE], [WRITE, wrong, MOVE], [WRITE, MOVE, wrong]]:
                with self.assertRaises(BadMachine, msg=repr(wrong)):
                    Several(2, 3, 2, rows)

    def test_all_small_rows_are_allowed(self):
        for state in range(2):
            for after in range(2):
                for one in range(-1, 2):
                    for two in range(-1, 2):
                        row = ("move", state, (one, two), after)
                        self.assertEqual(Several(2, 3, 2, [row]).table(), [row])
                for marks in range(81):
                    items = (marks // 27, marks // 9 % 3, marks // 3 % 3, marks % 3)
                    row = ("write", state, items[:2], items[2:], after)
                    self.assertEqual(Several(2, 3, 2, [row]).table(), [row])

    def test_the_number_of_rows(self):
        self.assertEqual(len(Several(1, 400, 51, many_rows(20000)).table()), 20000)
        with self.assertRaises(BadMachine):
            Several(1, 400, 51, many_rows(20001))
        with self.assertRaises(BadMachine):
            Several(1, 400, 51, many_rows(20000) + [("move", 0, (0,), 0)])
        with self.assertRaises(BadMachine):
            Several(1, 400, 51, [("move", 0, (0,), 0)] * 20001)
        with self.assertRaises(Clash) as caught:
            Several(1, 400, 51, many_rows(19999) + [("move", 20, (0,), 0)])
        self.assertEqual((caught.exception.first, caught.exception.second), (8000, 19999))

    def test_a_wrong_member_comes_before_a_clash(self):
        for rows in [[WRITE, WRITE, None], [MOVE, MOVE, ("move", 2, (0, 0), 0)], [None, WRITE, WRITE],
                     [WRITE, None, WRITE], [MOVE, MOVE, list(MOVE)]]:
            with self.assertRaises(BadMachine):
                Several(2, 3, 2, rows)
        with self.assertRaises(BadMachine):
            Several(5, 3, 2, [WRITE, WRITE])
        with self.assertRaises(BadMachine):
            Several(2, 401, 2, [WRITE, WRITE])
        with self.assertRaises(BadMachine):
            Several(2, 3, 5001, [WRITE, WRITE])

    def test_the_list_is_copied(self):
        rows = [WRITE, MOVE]
        machine = Several(2, 3, 2, rows)
        rows.clear()
        self.assertEqual(machine.table(), [WRITE, MOVE])
        self.assertEqual(machine.step((0, (((), 0, ()), ((), 2, ())))), (1, (((), 1, ()), ((), 0, ()))))
        self.assertEqual(machine.back((1, (((), 1, ()), ((), 0, ())))), (0, (((), 0, ()), ((), 2, ()))))

    def test_the_table_is_new_each_time(self):
        machine = Several(2, 3, 2, [WRITE, MOVE])
        table = machine.table()
        self.assertIsInstance(table, list)
        self.assertIsNot(table, machine.table())
        table[0] = None
        table.append(None)
        self.assertEqual(machine.table(), [WRITE, MOVE])
        self.assertEqual(machine.step((0, (((), 0, ()), ((), 2, ())))), (1, (((), 1, ()), ((), 0, ()))))

    def test_a_list_that_is_refused_stays(self):
        for rows in [[WRITE, WRITE], [WRITE, None]]:
            kept = list(rows)
            with self.assertRaises((BadMachine, Clash)):
                Several(2, 3, 2, rows)
            self.assertEqual(rows, kept)


class Clashes(unittest.TestCase):
    def check(self, tapes, marks, states, rows):
        pair = first_pair(rows, clash_forwards)
        if pair is None:
            self.assertEqual(Several(tapes, marks, states, rows).table(), rows)
            return
        with self.assertRaises(Clash, msg=repr(rows)) as caught:
            Several(tapes, marks, states, rows)
        self.assertEqual((caught.exception.first, caught.exception.second), pair, repr(rows))

    def test_the_kinds_of_pairs(self):
        write = ("write", 0, (0, 1), (0, 1), 0)
        for other in [write, ("write", 0, (0, 1), (1, 1), 1), ("write", 0, (1, 1), (0, 1), 0), ("move", 0, (0, 0), 0),
                      ("move", 0, (1, 1), 1), ("write", 1, (0, 1), (0, 1), 0), ("move", 1, (0, 1), 0)]:
            self.check(2, 3, 2, [write, other])
            self.check(2, 3, 2, [other, write])
            self.check(2, 3, 2, [("move", 0, (0, 1), 1), other])
            self.check(2, 3, 2, [other, ("move", 0, (0, 1), 1)])
        self.check(2, 3, 2, [])

    def test_the_least_pair(self):
        other = [("write", 1, (0,), (0,), 0), ("write", 1, (1,), (1,), 0), ("write", 2, (0,), (0,), 0)]
        write, read, move = ("write", 0, (0,), (0,), 1), ("write", 0, (1,), (1,), 1), ("move", 0, (1,), 1)
        for rows in [[write, read, move], [read, write, read, write], [move, write, move],
                     [write, other[0], read, other[0]], [other[0], write, other[1], read, write, other[1]],
                     [write, other[0], other[0], write], other + [write, read, read, write],
                     other + [read, move, write, write], [write, read] + other + [move],
                     other[:2] + [write, ("move", 1, (0,), 0), write]]:
            self.check(1, 3, 3, rows)

    def test_against_all_pairs(self):
        rng = rng_of(21)
        for _ in range(3000):
            tapes, marks, states = rng.randrange(1, 3), rng.randrange(2, 4), rng.randrange(1, 7)
            rows = [some_several_row(rng, tapes, marks, states) for _ in range(rng.randrange(9))]
            self.check(tapes, marks, states, rows)

    def test_against_all_pairs_of_many_rows(self):
        rng = rng_of(22)
        for _ in range(150):
            rows = some_several_rows(rng, 2, 5, 9, 60, False)
            self.check(2, 5, 9, rows)
            for _ in range(rng.randrange(1, 4)):
                rows.insert(rng.randrange(len(rows) + 1), some_several_row(rng, 2, 5, 9))
            self.check(2, 5, 9, rows)


class Configurations(unittest.TestCase):
    def check(self, machine, value, right):
        self.assertIs(machine.is_configuration(value), right, repr(value))

    def test_small_ones(self):
        machine = Several(2, 3, 2, [])
        for tape in all_tapes(3, 1):
            for other in all_tapes(3, 1):
                self.check(machine, (1, (tape, other)), True)

    def test_greatest_numbers(self):
        machine = Several(4, 400, 5000, [])
        tape = ((399, 0, 399), 399, (0, 399))
        self.check(machine, (4999, (tape,) * 4), True)
        self.check(machine, (5000, (tape,) * 4), False)
        for wrong in [((400,), 0, ()), ((), 400, ()), ((), 0, (400,))]:
            for at in range(4):
                self.check(machine, (4999, (tape,) * at + (wrong,) + (tape,) * (3 - at)), False)

    def test_number_of_tapes(self):
        for tapes in (1, 2, 3, 4):
            for many in range(6):
                self.check(Several(tapes, 2, 1, []), (0, (((), 0, ()),) * many), many == tapes)

    def test_wrong_states(self):
        machine = Several(1, 3, 2, [])
        for odd in ODD + [2, 3, 5000]:
            self.check(machine, (odd, (((), 0, ()),)), False)
        self.check(machine, (0, (((), 0, ()),)), True)
        self.check(machine, (1, (((), 0, ()),)), True)

    def test_wrong_tapes(self):
        machine = Several(2, 3, 2, [])
        good = ((1, 0, 2), 0, (0, 1))
        sides = [odd for odd in ODD if odd not in [(), (1,)]]
        sides += [(0,), (1, 0), (3,), (3, 1), (-1,), (True,), (False, 1), (None,), [1], "1", ((1,),), (1.0,)]
        wrong = [((), odd, ()) for odd in ODD + [3, 400]]
        wrong += [(side, 0, ()) for side in sides] + [((), 0, side) for side in sides]
        wrong += [((1,), 2, side) for side in sides]
        wrong += [odd for odd in ODD]
        wrong += [[(), 0, ()], ((), 0), ((), 0, (), ()), (0, (), ()), ((), (), 0), (0, (), 0, ())]
        for tape in wrong:
            self.check(machine, (0, (tape, good)), False)
            self.check(machine, (0, (good, tape)), False)
            self.check(machine, (1, (tape, tape)), False)
        self.check(machine, (1, (good, good)), True)

    def test_other_kinds_and_lengths(self):
        machine = Several(1, 3, 2, [])
        tape = ((), 0, ())
        for odd in ODD + [[0, (tape,)], (0, [tape]), (0, tape), (0,), (0, (tape,), 0), ((tape,), 0), ((0, (tape,)),),
                          (0, (tape,), ()), (0, ()), (0, None), (0, "a"), (0, {0: tape}), (0, 0), (0, (), 0, ())]:
            self.check(machine, odd, False)

    def test_begin(self):
        machine = Several(3, 3, 2, [])
        for word, tape in [((), ((), 0, ())), ((0,), ((), 0, ())), ((2,), ((), 2, ())), ((1, 2), ((), 1, (2,))),
                           ((0, 0, 1, 0, 2, 0, 0), ((), 0, (0, 1, 0, 2))), ((1, 0), ((), 1, ())),
                           ((0, 0), ((), 0, ()))]:
            self.assertEqual(machine.begin((word, (), (1,))), (0, (tape, ((), 0, ()), ((), 1, ()))))
            self.assertEqual(machine.begin(((2, 1), word, word)), (0, (((), 2, (1,)), tape, tape)))
            self.assertTrue(machine.is_configuration(machine.begin((word, word, word))))
        self.assertEqual(Several(1, 2, 1, []).begin(((1, 1),)), (0, (((), 1, (1,)),)))

    def test_begin_with_other_values(self):
        machine = Several(2, 3, 2, [])
        for words in ODD + [((),), ((), (), ()), [(), ()], ((), []), ([], ()), ((), "1"), ("", ""), ((), None), ((), 1),
                            (1, 1), {0: (), 1: ()}, ((1, 2), [1]), (((),), ((),)), "ab", (b"", b"")]:
            with self.assertRaises(BadMark, msg=repr(words)):
                machine.begin(words)
        for odd in ODD + [3, 400]:
            for word in [(odd,), (1, odd), (odd, 1), (0, odd, 0)]:
                for words in [(word, ()), ((), word), (word, word), ((1,), word)]:
                    with self.assertRaises(BadMark, msg=repr(words)):
                        machine.begin(words)

    def test_begin_at_the_ends_of_the_marks(self):
        machine = Several(4, 400, 1, [])
        self.assertEqual(machine.begin(((399, 399),) * 4), (0, (((), 399, (399,)),) * 4))
        for at in range(4):
            with self.assertRaises(BadMark):
                machine.begin(((),) * at + ((399, 400),) + ((),) * (3 - at))


class Runs(unittest.TestCase):
    def test_write_rows(self):
        machine = Several(2, 3, 2, [("write", 0, (1, 0), (0, 2), 1), ("write", 0, (1, 1), (1, 1), 0)])
        self.assertEqual(machine.step((0, (((1,), 1, (0, 2)), ((), 0, (1,))))),
                         (1, (((1,), 0, (0, 2)), ((), 2, (1,)))))
        self.assertEqual(machine.step((0, (((), 1, ()), ((), 1, ())))), (0, (((), 1, ()), ((), 1, ()))))
        for state, marks in [(0, (0, 0)), (0, (0, 1)), (0, (1, 2)), (0, (2, 0)), (1, (1, 0)), (1, (0, 0))]:
            configuration = (state, tuple(((), mark, ()) for mark in marks))
            self.assertIsNone(machine.step(configuration))
            self.assertIs(machine.stopped(configuration), True)

    def test_move_rows(self):
        machine = Several(3, 3, 2, [("move", 0, (-1, 0, 1), 1)])
        self.assertEqual(machine.step((0, (((), 0, ()),) * 3)), (1, (((), 0, ()),) * 3))
        self.assertEqual(machine.step((0, (((), 1, ()),) * 3)), (1, (((), 0, (1,)), ((), 1, ()), ((1,), 0, ()))))
        self.assertEqual(machine.step((0, (((2, 1), 0, ()), ((1,), 0, (2,)), ((), 0, (2, 1))))),
                         (1, (((1,), 2, ()), ((1,), 0, (2,)), ((), 2, (1,)))))
        self.assertEqual(machine.step((0, (((0, 1), 1, (2,)), ((), 2, ()), ((1,), 1, (0, 2))))),
                         (1, (((1,), 0, (1, 2)), ((), 2, ()), ((1, 1), 0, (2,)))))
        self.assertIs(machine.stopped((0, (((), 2, ()),) * 3)), False)
        self.assertIs(machine.stopped((1, (((), 2, ()),) * 3)), True)

    def test_a_state_that_leads_to_itself(self):
        machine = Several(1, 2, 1, [("move", 0, (1,), 0)])
        self.assertEqual(machine.run((0, (((), 1, (1, 1)),)), 2), ((0, (((1, 1), 1, ()),)), 2))
        self.assertEqual(machine.run((0, (((), 1, ()),)), 50), ((0, (((0,) * 49 + (1,), 0, ()),)), 50))

    def test_against_plain_runs(self):
        rng = rng_of(23)
        for _ in range(300):
            tapes, marks, states = rng.randrange(1, 5), rng.randrange(2, 4), rng.randrange(1, 6)
            rows = some_several_rows(rng, tapes, marks, states, 40, False)
            machine = Several(tapes, marks, states, rows)
            for _ in range(6):
                configuration = some_configuration(rng, tapes, marks, states)
                kept = (configuration[0], tuple(tuple(tape) for tape in configuration[1]))
                after = several_step(rows, configuration)[1]
                self.assertEqual(machine.step(configuration), after)
                self.assertIs(machine.stopped(configuration), after is None)
                run = several_run(rows, configuration, 12)
                for steps in (0, 1, 2, len(run) - 1, len(run), 12):
                    taken = min(steps, len(run) - 1)
                    if steps <= 12:
                        self.assertEqual(machine.run(configuration, steps), (run[taken], taken))
                        self.assertTrue(machine.is_configuration(run[taken]))
                self.assertEqual(configuration, kept)

    def test_more_steps_than_there_are(self):
        machine = Several(1, 2, 2, [("write", 0, (1,), (0,), 1), ("move", 1, (1,), 0)])
        for steps in (6, 7, 100, 10 ** 18):
            self.assertEqual(machine.run(machine.begin(((1, 1, 1),)), steps), ((0, (((), 0, ()),)), 6))
        self.assertEqual(machine.run(machine.begin(((1, 1, 1),)), 5), ((1, (((), 0, ()),)), 5))
        self.assertEqual(machine.run(machine.begin(((0, 1),)), 5), ((0, (((), 0, (1,)),)), 0))
        self.assertEqual(machine.run(machine.begin(((1,),)), 0), ((0, (((), 1, ()),)), 0))

    def test_the_greatest_machine(self):
        rows = greatest_rows()
        self.assertEqual(len(rows), 20000)
        machine = Several(4, 400, 5000, rows)
        self.assertEqual((machine.tapes, machine.marks, machine.states), (4, 400, 5000))
        self.assertEqual(machine.table(), rows)
        begin = machine.begin(((1, 2), (57, 114), (), (1, 2)))
        run = several_run(rows, begin, 12)
        for steps in (0, 1, 2, 3, 12):
            self.assertEqual(machine.run(begin, steps), (run[steps], steps))
        end, taken = machine.run(begin, 6000)
        self.assertEqual((taken, end[0]), (6000, 1000))
        self.assertTrue(machine.is_configuration(end))

    def test_clashes_of_the_greatest_machine(self):
        rows = greatest_rows()
        for at, row in [(19998, rows[3]), (19999, rows[19990]), (12000, ("move", 0, (0, 0, 0, 0), 0))]:
            changed = rows[:at] + [row] + rows[at + 1:]
            first = [i for i in range(20000) if i != at and clash_forwards(changed[i], row)][0]
            with self.assertRaises(Clash) as caught:
                Several(4, 400, 5000, changed)
            self.assertEqual((caught.exception.first, caught.exception.second), (first, at))
