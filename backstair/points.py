"""The points of a program, and the steps that lead from one to the next, forwards and backwards.

A step is a tuple that begins with a word:
- ("change", sign, place, expression, point): changes the variable at a place;
- ("swap", place, place, point): exchanges two variables;
- ("choose", condition, point, point): leads to the first point if the condition is true;
- ("demand", condition, wanted, point): refused if the condition is not as it is wanted;
- ("enter", name, turn, point, point): runs a procedure; the points stand before and behind the call;
- ("leave",): comes back from a procedure, or is the end of main.
"""

from backstair.invert import OPPOSITES
from backstair.worth import condition_form, expression_form

TURNS = {"call": 1, "uncall": -1}
LEAVE = ("leave",)


class Points:
    """The points of a program; `onward` and `backward` have the step of each one in both directions."""

    def __init__(self, program):
        self.variables = program.variables
        self.onward = []
        self.backward = []
        self.firsts = {}
        self.lasts = {}
        for name in program.names:
            first, last = self.lay_body(program.body(name))
            self.firsts[name] = first
            self.lasts[name] = last
            self.backward[first] = LEAVE
            self.onward[last] = LEAVE

    def new_point(self):
        """Return the number of a new point."""
        self.onward.append(None)
        self.backward.append(None)
        return len(self.onward) - 1

    def lay_body(self, body):
        """Create the points of a body; return its first and its last one."""
        first = self.new_point()
        at = first
        for statement in body:
            after = self.new_point()
            self.lay_statement(statement, at, after)
            at = after
        return (first, at)

    def lay_statement(self, statement, at, after):
        """Create the steps of a statement, and the points within it."""
        word = statement[0]
        if word == "if":
            self.lay_if(statement, at, after)
        elif word == "from":
            self.lay_from(statement, at, after)
        elif word == "swap":
            one = self.variables.index(statement[1])
            two = self.variables.index(statement[2])
            self.onward[at] = ("swap", one, two, after)
            self.backward[after] = ("swap", one, two, at)
        elif word in TURNS:
            step = ("enter", statement[1], TURNS[word], at, after)
            self.onward[at] = step
            self.backward[after] = step
        else:
            place = self.variables.index(statement[1])
            expression = expression_form(statement[2], self.variables)
            self.onward[at] = ("change", word, place, expression, after)
            self.backward[after] = ("change", OPPOSITES.get(word, word), place, expression, at)

    def lay_if(self, statement, at, after):
        """Create the steps and points of an "if"."""
        before = condition_form(statement[1], self.variables)
        behind = condition_form(statement[4], self.variables)
        first_one, last_one = self.lay_body(statement[2])
        first_two, last_two = self.lay_body(statement[3])
        self.onward[at] = ("choose", before, first_one, first_two)
        self.backward[first_one] = ("demand", before, True, at)
        self.backward[first_two] = ("demand", before, False, at)
        self.onward[last_one] = ("demand", behind, True, after)
        self.onward[last_two] = ("demand", behind, False, after)
        self.backward[after] = ("choose", behind, last_one, last_two)

    def lay_from(self, statement, at, after):
        """Create the steps and points of a "from"."""
        before = condition_form(statement[1], self.variables)
        behind = condition_form(statement[4], self.variables)
        first_one, last_one = self.lay_body(statement[2])
        first_two, last_two = self.lay_body(statement[3])
        self.onward[at] = ("demand", before, True, first_one)
        self.backward[first_one] = ("choose", before, at, last_two)
        self.onward[last_one] = ("choose", behind, after, first_two)
        self.backward[first_two] = ("demand", behind, False, last_one)
        self.onward[last_two] = ("demand", before, False, first_one)
        self.backward[after] = ("demand", behind, True, last_one)
