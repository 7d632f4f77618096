"""[0.4], [0.5], [3.7] to [3.14]: ordinary machines carried in clean."""

import itertools
import unittest

from backstair.clean import answer_of, clean, clean_begin, clean_end, clean_steps, lent, shown
from backstair.inverse import clash
from backstair.several import Several
from backstair.tape import Tape
from tests.oracle import all_tapes, rng_of, some_rows, some_tape, tape_run

# Clears ones to the right of it and stops at the first blank, as in [1.7].
CLEARER = [None, (0, 1, 0)]
# Counts up in binary: clears the ones on its way to the left, marks the first blank, and steps back.
COUNTER = [(1, 1, 1), (0, -1, 0), None, (1, 1, 1)]
# Exchanges the marks 1 and 2 up to the first blank, and comes back to the first mark, which is its answer's.
TURNER = [(0, -1, 1), (2, 1, 0), (1, 1, 0), (0, 1, 2), (1, -1, 1), (2, -1, 1), None, None, None]
BLANK = ((), 0, ())
MIDDLE = ["halt", "first", "look", "aside", "copy", "on", "copied", "turn", "left", "seen", "home"]


def pairs_of(machine):
    """Return all pairs of a machine, those without a row, too."""
    return [(state, mark) for state in range(machine.states) for mark in range(machine.marks)]


def state_numbers(machine):
    """Return the dict from the names of the clean machine's states to their numbers, as [3.8] lists them."""
    states, pairs = range(machine.states), pairs_of(machine)
    names = ["start"] + [("enter", q) for q in states] + [("at", q) for q in states]
    names += [("go", pair) for pair in pairs] + [("note", pair) for pair in pairs] + MIDDLE + ["undo"]
    names += [("back at", q) for q in states] + [("back enter", q) for q in states]
    names += [("back note", pair) for pair in pairs] + [("back go", pair) for pair in pairs] + ["end"]
    return {name: at for at, name in enumerate(names)}


def rows_by_names(machine):
    """Return the rows that [3.9] tells, each with the names of its states."""
    every = range(machine.marks)
    letters = range(1, machine.marks)
    pairs = [(q, a, machine.marks * q + a, machine.row(q, a)) for q, a in pairs_of(machine)]
    rows = [("write", "start", (a, 0, 0), (a, 0, 0), ("enter", 0)) for a in every]
    for q, a, p, row in pairs:
        if row is None:
            rows.append(("write", ("at", q), (a, 0, 0), (a, p + 1, 0), "halt"))
        else:
            w, move, t = row
            rows.append(("write", ("at", q), (a, 0, 0), (w, 0, 0), ("go", (q, a))))
            rows.append(("move", ("go", (q, a)), (move, 0, 0), ("note", (q, a))))
            rows += [("write", ("note", (q, a)), (c, 0, 0), (c, p + 1, 0), ("enter", t)) for c in every]
    rows += [("move", ("enter", q), (0, 1, 0), ("at", q)) for q in range(machine.states)]
    rows += [("move", "halt", (0, 1, 0), "first")]
    rows += [("write", "first", (a, 0, 0), (a, 0, 0), "look") for a in every]
    rows += [("write", "look", (b, 0, x), (b, 0, x), "aside") for b, x in itertools.product(letters, every)]
    rows += [("write", "look", (0, 0, x), (0, 0, x), "turn") for x in every]
    rows += [("move", "aside", (0, 0, 1), "copy")]
    rows += [("write", "copy", (b, 0, 0), (b, 0, b), "on") for b in letters]
    rows += [("move", "on", (1, 0, 0), "copied")]
    rows += [("write", "copied", (a, 0, b), (a, 0, b), "look") for a, b in itertools.product(every, letters)]
    rows += [("write", "turn", (a, 0, b), (a, 0, b), "left") for a, b in itertools.product(every, letters)]
    rows += [("write", "turn", (a, 0, 0), (a, 0, 0), "home") for a in every]
    rows += [("move", "left", (-1, 0, -1), "seen")]
    rows += [("write", "seen", (b, 0, x), (b, 0, x), "turn") for b, x in itertools.product(letters, every)]
    rows += [("move", "home", (0, -1, 0), "undo")]
    rows += [("write", "undo", (a, p + 1, 0), (a, 0, 0), ("back at", q)) for q, a, p, row in pairs if row is None]
    rows += [("move", ("back at", q), (0, -1, 0), ("back enter", q)) for q in range(machine.states)]
    rows += [("write", ("back enter", 0), (a, 0, 0), (a, 0, 0), "end") for a in every]
    for q, a, p, row in pairs:
        if row is not None:
            w, move, t = row
            rows += [("write", ("back enter", t), (c, p + 1, 0), (c, 0, 0), ("back note", (q, a))) for c in every]
            rows.append(("move", ("back note", (q, a)), (-move, 0, 0), ("back go", (q, a))))
            rows.append(("write", ("back go", (q, a)), (w, 0, 0), (a, 0, 0), ("back at", q)))
    return rows


def numbered_rows(machine):
    """Return the rows that [3.9] tells."""
    number = state_numbers(machine)
    return [(row[0], number[row[1]]) + row[2:-1] + (number[row[-1]],) for row in rows_by_names(machine)]


def machines():
    """Return machines with and without rows that are None, the smallest ones and the greatest among them."""
    rng = rng_of(41)
    found = [Tape(2, 1, list(rows)) for rows in itertools.product([None, (0, 1, 0), (1, -1, 0)], repeat=2)]
    found += [Tape(2, 2, COUNTER), Tape(3, 3, TURNER), Tape(8, 40, some_rows(rng, 8, 40)),
              Tape(8, 40, some_rows(rng, 8, 40, 10 ** 9)), Tape(8, 40, [None] * 320), Tape(8, 1, some_rows(rng, 8, 1)),
              Tape(2, 40, some_rows(rng, 2, 40))]
    for marks in (2, 3, 5):
        for states in (1, 2, 3, 7):
            found.append(Tape(marks, states, some_rows(rng, marks, states)))
            found.append(Tape(marks, states, some_rows(rng, marks, states, 10 ** 9)))
    return found


def stopping_runs():
    """Return machines with runs of theirs that begin in state 0 and stop."""
    rng = rng_of(42)
    found = []
    fixed = [Tape(2, 1, CLEARER), Tape(2, 2, COUNTER), Tape(3, 3, TURNER), Tape(2, 1, [None, None]),
             Tape(4, 1, [None, (3, 1, 0), None, None]), Tape(3, 1, [None, (2, -1, 0), (1, 1, 0)])]
    some = [Tape(marks, states, some_rows(rng, marks, states, 5))
            for marks in (2, 3, 4, 8) for states in (1, 2, 3, 40) for _ in range(3)]
    for machine in fixed + some:
        begins = [(0,) + some_tape(rng, machine.marks, 6) for _ in range(6)]
        if machine in fixed:
            begins += [(0,) + tape for tape in all_tapes(machine.marks, 1)]
        for configuration in begins:
            run = tape_run(machine, configuration, 40)
            if len(run) <= 40:
                found.append((machine, run))
    return found


def marks_from(configuration):
    """Return the marks from the head's place up to the first blank, mark by mark."""
    found = []
    for mark in [configuration[2], *configuration[3], 0]:
        if mark == 0:
            break
        found.append(mark)
    return tuple(found)


class Answers(unittest.TestCase):
    def test_written_out(self):
        for configuration, answer in [
                ((0, (), 0, ()), ()), ((3, (1, 2), 0, (1, 1)), ()), ((0, (), 1, ()), (1,)),
                ((0, (2,), 1, (2, 3)), (1, 2, 3)), ((0, (), 1, (0, 2)), (1,)), ((1, (), 1, (2, 0, 0, 3)), (1, 2)),
                ((39, (7,), 7, (7, 7, 0, 7)), (7, 7, 7)), ((0, (1,), 0, (0, 1)), ())]:
            self.assertEqual(answer_of(configuration), answer)
            self.assertIsInstance(answer_of(configuration), tuple)

    def test_all_small_tapes(self):
        for tape in all_tapes(3, 3):
            self.assertEqual(answer_of((2,) + tape), marks_from((2,) + tape))


class Rows(unittest.TestCase):
    def test_sizes_and_rows(self):
        for machine in machines():
            found = clean(machine)
            self.assertIsInstance(found, Several)
            self.assertEqual(found.tapes, 3)
            self.assertEqual(found.marks, machine.marks * machine.states + 1)
            self.assertEqual(found.states, len(state_numbers(machine)))
            self.assertEqual(found.table(), numbered_rows(machine))

    def test_state_numbers_of_the_document(self):
        for machine in [Tape(2, 1, CLEARER), Tape(3, 3, TURNER), Tape(8, 40, [None] * 320)]:
            m, s = machine.marks, machine.states
            number = state_numbers(machine)
            c = 1 + 2 * s + 2 * m * s
            d = c + 11
            self.assertEqual((number["start"], number["halt"], number["home"]), (0, c, c + 10))
            self.assertEqual((number["undo"], number["end"]), (d, d + 1 + 2 * s + 2 * m * s))
            for q, a in pairs_of(machine):
                p = m * q + a
                self.assertEqual((number["enter", q], number["at", q]), (1 + q, 1 + s + q))
                self.assertEqual(number["go", (q, a)], 1 + 2 * s + p)
                self.assertEqual(number["note", (q, a)], 1 + 2 * s + m * s + p)
                self.assertEqual((number["back at", q], number["back enter", q]), (d + 1 + q, d + 1 + s + q))
                self.assertEqual(number["back note", (q, a)], d + 1 + 2 * s + p)
                self.assertEqual(number["back go", (q, a)], d + 1 + 2 * s + m * s + p)

    def test_rows_written_out(self):
        found = clean(Tape(2, 1, CLEARER))
        self.assertEqual((found.marks, found.states), (3, 26))
        w = "write"
        self.assertEqual(found.table(), [
            (w, 0, (0, 0, 0), (0, 0, 0), 1), (w, 0, (1, 0, 0), (1, 0, 0), 1), (w, 2, (0, 0, 0), (0, 1, 0), 7),
            (w, 2, (1, 0, 0), (0, 0, 0), 4), ("move", 4, (1, 0, 0), 6), (w, 6, (0, 0, 0), (0, 2, 0), 1),
            (w, 6, (1, 0, 0), (1, 2, 0), 1), ("move", 1, (0, 1, 0), 2), ("move", 7, (0, 1, 0), 8),
            (w, 8, (0, 0, 0), (0, 0, 0), 9), (w, 8, (1, 0, 0), (1, 0, 0), 9), (w, 9, (1, 0, 0), (1, 0, 0), 10),
            (w, 9, (1, 0, 1), (1, 0, 1), 10), (w, 9, (0, 0, 0), (0, 0, 0), 14), (w, 9, (0, 0, 1), (0, 0, 1), 14),
            ("move", 10, (0, 0, 1), 11), (w, 11, (1, 0, 0), (1, 0, 1), 12), ("move", 12, (1, 0, 0), 13),
            (w, 13, (0, 0, 1), (0, 0, 1), 9), (w, 13, (1, 0, 1), (1, 0, 1), 9), (w, 14, (0, 0, 1), (0, 0, 1), 15),
            (w, 14, (1, 0, 1), (1, 0, 1), 15), (w, 14, (0, 0, 0), (0, 0, 0), 17), (w, 14, (1, 0, 0), (1, 0, 0), 17),
            ("move", 15, (-1, 0, -1), 16), (w, 16, (1, 0, 0), (1, 0, 0), 14), (w, 16, (1, 0, 1), (1, 0, 1), 14),
            ("move", 17, (0, -1, 0), 18), (w, 18, (0, 1, 0), (0, 0, 0), 19), ("move", 19, (0, -1, 0), 20),
            (w, 20, (0, 0, 0), (0, 0, 0), 25), (w, 20, (1, 0, 0), (1, 0, 0), 25), (w, 20, (0, 2, 0), (0, 0, 0), 22),
            (w, 20, (1, 2, 0), (1, 0, 0), 22), ("move", 22, (-1, 0, 0), 24), (w, 24, (0, 0, 0), (1, 0, 0), 19)])

    def test_greatest(self):
        found = clean(Tape(8, 40, [(7, -1, 39)] * 320))
        self.assertEqual((found.tapes, found.marks, found.states), (3, 321, 1454))
        self.assertEqual(len(found.table()), 8 + 3200 + 40 + 9 + 64 + 72 - 8 + 57 + 8 + 1 + 56 + 1 + 40 + 8 + 3200)
        self.assertEqual(found.table()[-1], ("write", 1452, (7, 0, 0), (7, 0, 0), 772))

    def test_without_any_row(self):
        found = clean(Tape(2, 1, [None, None]))
        self.assertEqual([row for row in found.table() if row[1] == 2],
                         [("write", 2, (0, 0, 0), (0, 1, 0), 7), ("write", 2, (1, 0, 0), (1, 2, 0), 7)])
        self.assertEqual([row for row in found.table() if row[-1] in (3, 4, 5, 6, 21, 22, 23, 24)], [])

    def test_without_a_none(self):
        found = clean(Tape(2, 1, [(0, 1, 0), (0, -1, 0)]))
        self.assertEqual([row for row in found.table() if row[-1] == 7 or row[1] == 18], [])

    def test_the_machine_stays(self):
        for machine in machines()[:12]:
            table, sizes = machine.table(), (machine.marks, machine.states)
            begin = machine.begin((1,))
            clean(machine)
            shown(machine, clean_begin(begin))
            clean_end(machine, begin, ())
            self.assertEqual(machine.table(), table)
            self.assertEqual((machine.marks, machine.states), sizes)
            self.assertEqual(begin, machine.begin((1,)))

    def test_goes_both_ways(self):
        for machine in machines():
            self.assertIsNone(clash(clean(machine)))


class BeginAndEnd(unittest.TestCase):
    def test_whatever_the_state(self):
        machine = Tape(3, 3, TURNER)
        end = state_numbers(machine)["end"]
        for tape in all_tapes(3, 1):
            for state in (0, 1, 2):
                self.assertEqual(clean_begin((state,) + tape), (0, (tape, BLANK, BLANK)))
                for answer in [(), (1,), (2, 1), (1, 1, 2, 2)]:
                    found = clean_end(machine, (state,) + tape, answer)
                    self.assertEqual(found, (end, (tape, BLANK, ((), 0, answer))))
                    self.assertTrue(clean(machine).is_configuration(found))

    def test_the_number_of_steps(self):
        for steps, marks, whole in [(0, 0, 11), (2, 0, 27), (0, 1, 19), (1, 1, 27), (5, 7, 107),
                                    (10 ** 6, 10 ** 5, 8800011)]:
            self.assertEqual(clean_steps(steps, marks), whole)

    def test_nothing_leads_to_the_beginning(self):
        for machine in [Tape(2, 1, CLEARER), Tape(2, 2, COUNTER), Tape(3, 3, TURNER), Tape(2, 1, [None, None])]:
            found = clean(machine)
            for tape in all_tapes(machine.marks, 2):
                self.assertIsNone(found.back(clean_begin((0,) + tape)))


class Runs(unittest.TestCase):
    def check(self, machine, run):
        """Go the whole way forth and back, and look at each configuration on it."""
        found = clean(machine)
        configuration, end = run[0], run[-1]
        answer = marks_from(end)
        self.assertEqual(answer_of(end), answer)
        steps, marks = len(run) - 1, len(answer)
        whole = 8 * (steps + marks) + 11
        self.assertEqual(clean_steps(steps, marks), whole)
        forth = {2 + 4 * t: t for t in range(steps + 1)}
        back = {8 * steps + 8 * marks + 9 - 4 * t: t for t in range(steps + 1)}
        way = [clean_begin(configuration)]
        for at in range(whole + 1):
            if at in forth:
                self.assertEqual(shown(machine, way[at]), ("forth", run[forth[at]]))
                self.assertEqual(lent(way[at]), forth[at])
            elif at in back:
                self.assertEqual(shown(machine, way[at]), ("back", run[back[at]]))
                self.assertEqual(lent(way[at]), back[at])
            else:
                self.assertIsNone(shown(machine, way[at]))
            self.assertLessEqual(lent(way[at]), steps + 1)
            way.append(found.step(way[at]))
        self.assertIsNone(way.pop())
        self.assertEqual(way[-1], clean_end(machine, configuration, answer))
        self.assertIs(found.stopped(way[-1]), True)
        self.assertEqual((lent(way[0]), lent(way[-1])), (0, 0))
        self.assertEqual(found.run(way[0], whole + 5), (way[-1], whole))
        self.assertEqual(found.run_back(way[-1], whole + 5), (way[0], whole))
        self.assertIsNone(found.back(way[0]))

    def test_machines_that_stop(self):
        runs = stopping_runs()
        self.assertGreater(len([1 for _, run in runs if len(run) > 5]), 10)
        self.assertGreater(len([1 for _, run in runs if len(marks_from(run[-1])) > 1]), 10)
        self.assertGreater(len([1 for _, run in runs if len(run) == 1]), 5)
        for machine, run in runs:
            self.check(machine, run)

    def test_answers_with_marks_behind_a_blank(self):
        machine = Tape(3, 1, [None] * 3)
        for tape in [((), 1, (2, 0, 1)), ((1,), 2, (2, 2)), ((), 0, (1, 2)), ((2,), 0, ())]:
            self.check(machine, [(0,) + tape])

    def test_greatest(self):
        # Goes to the right through all states and marks, and stops in the last state.
        rows = [((a + 1) % 8, 1, q + 1) if q < 39 else None for q in range(40) for a in range(8)]
        machine = Tape(8, 40, rows)
        self.check(machine, tape_run(machine, machine.begin(tuple(at % 8 for at in range(60))), 100))

    def test_states_other_than_0_begin_in_state_0(self):
        machine = Tape(2, 2, COUNTER)
        configuration = (1, (1, 1), 0, (1,))
        self.assertEqual(clean(machine).run(clean_begin(configuration), 2)[0][0], 1 + 2 + 0)
        run = tape_run(machine, (0,) + configuration[1:], 50)
        end = clean_end(machine, configuration, marks_from(run[-1]))
        many = clean_steps(len(run) - 1, len(marks_from(run[-1])))
        self.assertEqual(clean(machine).run(clean_begin(configuration), 10 ** 4), (end, many))


class Shown(unittest.TestCase):
    def test_each_state(self):
        for machine in [Tape(2, 1, CLEARER), Tape(3, 3, TURNER), Tape(2, 2, COUNTER), Tape(8, 40, [None] * 320)]:
            tape = ((1, 0, 1), 1, (0, 1))
            for name, number in state_numbers(machine).items():
                for others in [(BLANK, BLANK), (((1, 2), 0, ()), ((), 0, (1,)))]:
                    found = shown(machine, (number, (tape,) + others))
                    if name[0] == "at":
                        self.assertEqual(found, ("forth", (name[1],) + tape))
                    elif name[0] == "back at":
                        self.assertEqual(found, ("back", (name[1],) + tape))
                    else:
                        self.assertIsNone(found, name)

    def test_lent(self):
        for notes, many in [(((), 0, ()), 0), (((1, 2), 0, ()), 2), (((), 3, ()), 1), (((), 0, (0, 1)), 1),
                            (((0, 0, 5), 5, (5, 0, 5)), 4), (((1,) * 1000, 0, ()), 1000)]:
            self.assertEqual(lent((3, (((1, 1), 1, (1,)), notes, ((), 0, (1, 1))))), many)


class Endless(unittest.TestCase):
    def test_machines_that_do_not_stop(self):
        for machine in [Tape(2, 1, [(1, 1, 0), (1, 1, 0)]), Tape(2, 2, [(1, 1, 1), (0, -1, 1), (0, -1, 0), (1, 1, 0)]),
                        Tape(3, 1, [(2, -1, 0), (0, 1, 0), None])]:
            run = tape_run(machine, machine.begin(()), 100)
            self.assertEqual(len(run), 101)
            found = clean(machine)
            configuration = clean_begin(run[0])
            for at in range(402):
                expected = ("forth", run[(at - 2) // 4]) if at % 4 == 2 else None
                self.assertEqual(shown(machine, configuration), expected)
                configuration = found.step(configuration)
            self.assertEqual(found.run(clean_begin(run[0]), 3000)[1], 3000)


class Example(unittest.TestCase):
    def test_of_the_document(self):
        machine = Tape(2, 1, CLEARER)
        begin = machine.begin((1, 1))
        self.assertEqual(machine.run(begin, 100)[1], 2)
        self.assertEqual(answer_of(machine.run(begin, 100)[0]), ())
        found = clean(machine)
        self.assertEqual((found.marks, found.states), (3, 26))
        self.assertEqual(found.run(clean_begin(begin), 1000)[1], 27)
        tenth = found.run(clean_begin(begin), 10)[0]
        self.assertEqual(shown(machine, tenth), ("forth", (0, (), 0, ())))
        self.assertEqual(tenth[1][1], ((2, 2), 0, ()))
        self.assertEqual(lent(tenth), 2)
        self.assertEqual(found.run(clean_begin(begin), 27)[0], (25, (((), 1, (1,)), BLANK, BLANK)))
        self.assertEqual(found.run_back((25, (((), 1, (1,)), BLANK, BLANK)), 100), (clean_begin(begin), 27))
