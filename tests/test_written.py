"""[1.4]: the texts of machines with one tape."""

import itertools
import unittest

from backstair.errors import BadText
from backstair.tape import Tape
from backstair.written import machine_of, text_of
from tests.oracle import rng_of, some_rows

FIRST = {f"tape {marks} {states}": (marks, states) for marks in range(2, 9) for states in range(1, 41)}
COUNTER = "tape 2 2\n0 0 > 1 right 1\n0 1 > 0 left 0\n1 0 stop\n1 1 > 1 right 1\n"


def allowed_lines(marks, states, place):
    """Return the set of all lines that a text of such a machine can have for a place of the table."""
    state, mark = divmod(place, marks)
    found = {f"{state} {mark} stop"}
    for written in range(marks):
        for way in ("left", "right"):
            for after in range(states):
                found.add(f"{state} {mark} > {written} {way} {after}")
    return found


def wrong_line(text):
    """Return the number of the line at which a text goes wrong, or None, as the document tells it."""
    *lines, rest = text.split("\n")
    if not lines or lines[0] not in FIRST:
        return 1
    marks, states = FIRST[lines[0]]
    for place in range(marks * states):
        if place + 1 >= len(lines) or lines[place + 1] not in allowed_lines(marks, states, place):
            return place + 2
    if len(lines) > marks * states + 1 or rest:
        return marks * states + 2
    return None


class Texts(unittest.TestCase):
    def refused(self, text, line):
        with self.assertRaises(BadText, msg=repr(text)) as caught:
            machine_of(text)
        self.assertEqual(caught.exception.line, line, repr(text))

    def agrees(self, text):
        line = wrong_line(text)
        if line is None:
            self.assertEqual(text_of(machine_of(text)), text)
        else:
            self.refused(text, line)

    def test_a_text(self):
        self.assertEqual(text_of(Tape(2, 2, [(1, 1, 1), (0, -1, 0), None, (1, 1, 1)])), COUNTER)
        machine = machine_of(COUNTER)
        self.assertIsInstance(machine, Tape)
        self.assertEqual((machine.marks, machine.states), (2, 2))
        self.assertEqual(machine.table(), [(1, 1, 1), (0, -1, 0), None, (1, 1, 1)])

    def test_the_order_of_the_rows(self):
        self.assertEqual(text_of(Tape(3, 2, [None] * 6)),
                         "tape 3 2\n0 0 stop\n0 1 stop\n0 2 stop\n1 0 stop\n1 1 stop\n1 2 stop\n")

    def test_numbers_of_two_digits(self):
        rows = [None] * 79 + [(1, -1, 39)]
        text = text_of(Tape(2, 40, rows))
        self.assertTrue(text.startswith("tape 2 40\n0 0 stop\n"))
        self.assertIn("\n9 1 stop\n10 0 stop\n10 1 stop\n11 0 stop\n", text)
        self.assertTrue(text.endswith("\n39 0 stop\n39 1 > 1 left 39\n"))
        self.assertEqual(machine_of(text).table(), rows)

    def test_all_machines_of_one_state_and_two_marks(self):
        rows = [None] + [(mark, move, 0) for mark in (0, 1) for move in (-1, 1)]
        texts = set()
        for table in itertools.product(rows, repeat=2):
            text = text_of(Tape(2, 1, list(table)))
            texts.add(text)
            self.assertEqual(machine_of(text).table(), list(table))
        self.assertEqual(len(texts), 25)

    def test_there_and_back(self):
        rng = rng_of(4)
        for marks, states in [(2, 1), (8, 40), (2, 40), (8, 1)] + [
                (rng.randrange(2, 9), rng.randrange(1, 41)) for _ in range(60)]:
            rows = some_rows(rng, marks, states)
            text = text_of(Tape(marks, states, rows))
            self.assertIsNone(wrong_line(text))
            machine = machine_of(text)
            self.assertEqual((machine.marks, machine.states, machine.table()), (marks, states, rows))
            self.assertEqual(text_of(machine), text)

    def test_no_text(self):
        self.refused("", 1)
        self.refused("\n", 1)
        self.refused("\n" + COUNTER, 1)

    def test_wrong_first_lines(self):
        rest = COUNTER[len("tape 2 2\n"):]
        for first in ["tape", "tape 2", "tape 2 2 2", "tape 2 2 ", " tape 2 2", "tape  2 2", "tape 2  2", "Tape 2 2",
                      "tapes 2 2", "2 2", "tape two 2", "tape 02 2", "tape 2 02", "tape +2 2", "tape 2 +2",
                      "tape -2 2", "tape 2 -2", "tape 1 4", "tape 0 2", "tape 9 1", "tape 2 0", "tape 2 41",
                      "tape 10 2", "tape 2 400", "tape 2.0 2", "tape 2_0 2", "tape\t2 2", "tape 2\t2", "tape 2 2\r",
                      "tape 2 2\t", "tape 2 0x2", "tape \u0662 2", "tape 2 \uff12", "tape 2 2\x0b", "tape 2 2\u2028",
                      "tape 2 00", "tape 2 1_0", "width 2 2", "0 0 stop", "", "tape  ", "tape 8 041"]:
            self.refused(first + "\n" + rest, 1)
            self.refused(first + "\n", 1)
            self.refused(first, 1)

    def test_sizes_at_the_ends_of_their_ranges(self):
        for marks, states in [(2, 1), (8, 1), (2, 40), (8, 40)]:
            self.refused(f"tape {marks} {states}\n", 2)
        for marks, states in [(1, 1), (9, 1), (2, 0), (2, 41), (8, 41), (9, 40)]:
            lines = [f"{state} {mark} stop\n" for state in range(states) for mark in range(marks)]
            self.refused(f"tape {marks} {states}\n" + "".join(lines), 1)

    def test_wrong_lines_of_rows(self):
        lines = COUNTER.split("\n")[:-1]
        for at, wrong in [
                (1, ["0 0 > 1 right 2", "0 0 > 2 right 1", "0 0 > 1 up 1", "0 0 > 1 right", "0 0 > 1 right 1 1",
                     "0 0 >", "0 0", "0", "", "0 0 1 right 1", "0 0 > right 1", "0 0 > 01 right 1", "0 0 > 1 right 01",
                     "00 0 > 1 right 1", "0 00 > 1 right 1", "0 0 > +1 right 1", "0 0 > 1 right +1", "0 0 > -1 right 1",
                     "-0 0 > 1 right 1", "0 0 > 1 right 1 ", " 0 0 > 1 right 1", "0  0 > 1 right 1", "0 0  > 1 right 1",
                     "0 0 >  1 right 1", "0 0 > 1  right 1", "0 0 > 1 right  1", "0 0 > 1 Right 1", "0 0 > 1 1 1",
                     "0 0 > 1 rightleft 1", "0 0 < 1 right 1", "0 1 > 1 right 1", "1 0 > 1 right 1", "0 2 > 1 right 1",
                     "0 0 > 1 right 1\r", "0 0 > 1 right 1\t", "0\t0 > 1 right 1", "0 0 > \u0661 right 1",
                     "0 0 > 1 right \u0661", "0 0 > 1 right 1\x0c", "0 0 > 1 right 1 stop", "0 0 stop 1 right 1",
                     "tape 2 2", "0 0 > 1 right -1", "0 0 > 1 right 1.0", "0 0>1 right 1"]),
                (3, ["1 0 stopp", "1 0 Stop", "1 0 sto", "1 0 stop ", "1 0  stop", " 1 0 stop", "1 0 stop stop",
                     "1 0 > stop", "01 0 stop", "+1 0 stop", "1 00 stop", "1 1 stop", "0 1 stop", "2 0 stop", "stop",
                     "1 stop", "1 0", "1 0 None", "1 0 stop\r", "1 0 stop 0", "\u0661 0 stop"]),
                (4, ["1 1 > 1 left 2", "1 1 > 2 left 1", "1 0 stop", "2 0 stop", "1 2 stop", ""])]:
            for line in wrong:
                changed = lines[:at] + [line] + lines[at + 1:]
                self.refused("\n".join(changed) + "\n", at + 1)
                self.refused("\n".join(changed), at + 1)
                self.refused("\n".join(changed[:at + 1]) + "\n", at + 1)

    def test_the_first_wrong_line_counts(self):
        lines = COUNTER.split("\n")[:-1]
        for one, two in itertools.combinations(range(5), 2):
            changed = list(lines)
            changed[one] = changed[two] = "x"
            self.refused("\n".join(changed) + "\n", one + 1)

    def test_rows_in_another_order(self):
        lines = COUNTER.split("\n")[:-1]
        for order in itertools.permutations(range(1, 5)):
            if order != (1, 2, 3, 4):
                first = [at for at in range(4) if order[at] != at + 1][0]
                self.refused("\n".join([lines[0]] + [lines[at] for at in order]) + "\n", first + 2)

    def test_lines_left_out_doubled_and_cut(self):
        lines = COUNTER.split("\n")[:-1]
        for at in range(5):
            self.refused("".join(line + "\n" for line in lines[:at] + lines[at + 1:]), at + 1)
            self.refused("".join(line + "\n" for line in lines[:at]), at + 1)
            self.refused("".join(line + "\n" for line in lines[:at] + [lines[at]] + lines[at:]), at + 2)
            self.refused("".join(line + "\n" for line in lines[:at] + ["", lines[at]] + lines[at + 1:]), at + 1)

    def test_each_beginning_of_a_text(self):
        for end in range(len(COUNTER)):
            self.refused(COUNTER[:end], COUNTER[:end].count("\n") + 1)

    def test_lines_too_many(self):
        for more in ["\n", " ", "x", "x\n", "\n\n", "1 1 > 1 right 1\n", "2 0 stop\n", "2 0 stop", COUNTER, "\r\n"]:
            self.refused(COUNTER + more, 6)

    def test_the_last_newline(self):
        self.refused(COUNTER[:-1], 5)
        self.refused(COUNTER[:-1] + " ", 5)
        self.refused(COUNTER[:-1] + "\r\n", 5)
        self.refused(COUNTER.replace("\n", "\r\n"), 1)
        self.refused(COUNTER.replace("\n", "\r"), 1)
        self.refused(COUNTER.replace("\n", " "), 1)

    def test_every_text_with_one_sign_changed(self):
        for text in [COUNTER, "tape 2 1\n0 0 stop\n0 1 > 0 right 0\n",
                     "tape 3 1\n0 0 > 2 left 0\n0 1 stop\n0 2 stop\n"]:
            for at in range(len(text) + 1):
                self.agrees(text[:at] + text[at + 1:])
                for sign in "012349 >\n-+rst\t":
                    self.agrees(text[:at] + sign + text[at:])
                    self.agrees(text[:at] + sign + text[at + 1:])

    def test_great_texts_with_a_line_changed(self):
        rng = rng_of(5)
        for _ in range(40):
            marks, states = rng.randrange(2, 9), rng.randrange(1, 41)
            lines = text_of(Tape(marks, states, some_rows(rng, marks, states))).split("\n")
            at = rng.randrange(1, len(lines))
            kind = rng.randrange(4)
            if kind == 0:
                del lines[at]
            elif kind == 1:
                lines.insert(at, lines[rng.randrange(len(lines))])
            elif kind == 2:
                lines[at] = lines[rng.randrange(len(lines))]
            else:
                lines[at] = lines[at].replace("0", str(rng.randrange(50)))
            self.agrees("\n".join(lines))
