"""Ordinary machines carried in clean: nothing is left but the word and the answer."""

from backstair.history import numbered
from backstair.several import Several

BLANK = ((), 0, ())


def answer_of(configuration):
    """Return the marks from the head's place to the right, up to the first blank."""
    marks = (configuration[2],) + configuration[3]
    if 0 in marks:
        return marks[:marks.index(0)]
    return marks


class Plan:
    """The numbers of the states of the clean machine; where there are several, of the first one."""

    def __init__(self, machine):
        states = machine.states
        pairs = machine.marks * states
        self.start = 0
        self.enter = 1
        self.at = 1 + states
        self.go = 1 + 2 * states
        self.note = self.go + pairs
        self.halt = self.note + pairs
        self.first = self.halt + 1
        self.look = self.halt + 2
        self.aside = self.halt + 3
        self.copier = self.halt + 4
        self.on = self.halt + 5
        self.copied = self.halt + 6
        self.turn = self.halt + 7
        self.left = self.halt + 8
        self.seen = self.halt + 9
        self.home = self.halt + 10
        self.undo = self.halt + 11
        self.back_at = self.undo + 1
        self.back_enter = self.back_at + states
        self.back_note = self.back_enter + states
        self.back_go = self.back_note + pairs
        self.end = self.back_go + pairs


def same(state, marks, after):
    """Return the row that only looks whether these marks are under the heads."""
    return ("write", state, marks, marks, after)


def forth_rows(machine, plan):
    """Return the rows of the run forth, with notes."""
    marks = range(machine.marks)
    rows = [same(plan.start, (a, 0, 0), plan.enter) for a in marks]
    for pair, state, a, row in numbered(machine):
        if row is None:
            rows.append(("write", plan.at + state, (a, 0, 0), (a, pair + 1, 0), plan.halt))
            continue
        written, move, after = row
        rows.append(("write", plan.at + state, (a, 0, 0), (written, 0, 0), plan.go + pair))
        rows.append(("move", plan.go + pair, (move, 0, 0), plan.note + pair))
        for c in marks:
            rows.append(("write", plan.note + pair, (c, 0, 0), (c, pair + 1, 0), plan.enter + after))
    for state in range(machine.states):
        rows.append(("move", plan.enter + state, (0, 1, 0), plan.at + state))
    return rows


def copy_rows(machine, plan):
    """Return the rows that copy the answer, from left to right."""
    marks = range(machine.marks)
    letters = range(1, machine.marks)
    rows = [("move", plan.halt, (0, 1, 0), plan.first)]
    rows += [same(plan.first, (a, 0, 0), plan.look) for a in marks]
    rows += [same(plan.look, (b, 0, x), plan.aside) for b in letters for x in marks]
    rows += [same(plan.look, (0, 0, x), plan.turn) for x in marks]
    rows.append(("move", plan.aside, (0, 0, 1), plan.copier))
    rows += [("write", plan.copier, (b, 0, 0), (b, 0, b), plan.on) for b in letters]
    rows.append(("move", plan.on, (1, 0, 0), plan.copied))
    rows += [same(plan.copied, (a, 0, b), plan.look) for a in marks for b in letters]
    return rows


def home_rows(machine, plan):
    """Return the rows that lead the heads from the answer's end to the left of its beginning."""
    marks = range(machine.marks)
    letters = range(1, machine.marks)
    rows = [same(plan.turn, (a, 0, b), plan.left) for a in marks for b in letters]
    rows += [same(plan.turn, (a, 0, 0), plan.home) for a in marks]
    rows.append(("move", plan.left, (-1, 0, -1), plan.seen))
    rows += [same(plan.seen, (b, 0, x), plan.turn) for b in letters for x in marks]
    rows.append(("move", plan.home, (0, -1, 0), plan.undo))
    return rows


def back_rows(machine, plan):
    """Return the rows of the run back, which takes the notes away."""
    marks = range(machine.marks)
    pairs = numbered(machine)
    rows = []
    for pair, state, a, row in pairs:
        if row is None:
            rows.append(("write", plan.undo, (a, pair + 1, 0), (a, 0, 0), plan.back_at + state))
    for state in range(machine.states):
        rows.append(("move", plan.back_at + state, (0, -1, 0), plan.back_enter + state))
    rows += [same(plan.back_enter, (a, 0, 0), plan.end) for a in marks]
    for pair, state, a, row in pairs:
        if row is None:
            continue
        written, move, after = row
        for c in marks:
            rows.append(("write", plan.back_enter + after, (c, pair + 1, 0), (c, 0, 0), plan.back_note + pair))
        rows.append(("move", plan.back_note + pair, (-move, 0, 0), plan.back_go + pair))
        rows.append(("write", plan.back_go + pair, (written, 0, 0), (a, 0, 0), plan.back_at + state))
    return rows


def clean(machine):
    """Return the machine of three tapes that works out the answer and forgets nothing."""
    plan = Plan(machine)
    rows = forth_rows(machine, plan) + copy_rows(machine, plan) + home_rows(machine, plan) + back_rows(machine, plan)
    return Several(3, machine.marks * machine.states + 1, plan.end + 1, rows)


def clean_begin(configuration):
    """Return the configuration in which the clean machine begins with this tape."""
    # In every clean machine this is the number of the state start.
    return (0, (configuration[1:], BLANK, BLANK))


def clean_end(machine, configuration, answer):
    """Return the configuration in which the clean machine ends with this tape and answer."""
    return (Plan(machine).end, (configuration[1:], BLANK, ((), 0, answer)))


def clean_steps(steps, marks):
    """Return the number of steps of the clean machine for a run of so many steps and an answer of so many marks."""
    return 8 * (steps + marks) + 11


def shown(machine, configuration):
    """Return which configuration of the machine its clean machine shows, and on which way, or None."""
    plan = Plan(machine)
    state = configuration[0]
    tape = configuration[1][0]
    if plan.at <= state < plan.at + machine.states:
        return ("forth", (state - plan.at,) + tape)
    if plan.back_at <= state < plan.back_at + machine.states:
        return ("back", (state - plan.back_at,) + tape)
    return None


def lent(configuration):
    """Return the number of marks on tape 1 that are not blank."""
    left, mark, right = configuration[1][1]
    marks = left + (mark,) + right
    return len(marks) - marks.count(0)
