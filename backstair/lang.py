"""Programs that go both ways: what they are made of."""

from backstair.errors import BadProgram
from backstair.kinds import are_numbers, is_number

WORDS = ("add", "call", "do", "else", "end", "fi", "from", "if", "loop", "proc", "swap", "then", "uncall", "until",
         "vars", "width")
CHANGES = ("+=", "-=", "^=")
OPERATORS = ("+", "-", "*", "&", "|", "^")
RELATIONS = ("==", "!=", "<")
CALLS = ("call", "uncall")
BRANCHES = ("if", "from")
MOST_VARIABLES = 6
MOST_PROCEDURES = 8
MOST_STATEMENTS = 200
MOST_DEPTH = 10


def is_name(value):
    """Return whether a value is a name: 1 to 8 letters from a to z that are no word of the language."""
    if not isinstance(value, str) or not 1 <= len(value) <= 8:
        return False
    return all(["a" <= letter <= "z" for letter in value]) and value not in WORDS


def is_variables(value):
    """Return whether a value is a tuple of 1 to 6 different names."""
    if not isinstance(value, tuple) or not 1 <= len(value) <= MOST_VARIABLES:
        return False
    return all([is_name(name) and value.count(name) == 1 for name in value])


class Checker:
    """Checks the bodies of a program, and counts their statements."""

    def __init__(self, width, variables, names):
        self.most = (1 << width) - 1
        self.variables = variables
        self.names = names
        self.many = 0

    def is_variable(self, value):
        """Return whether a value is a variable of the program."""
        return value in self.variables

    def is_atom(self, value):
        """Return whether a value is a number that fits, or a variable."""
        return is_number(value, 0, self.most) or self.is_variable(value)

    def is_triple(self, value, words):
        """Return whether a value is a tuple of one of these words and two atoms."""
        if not isinstance(value, tuple) or len(value) != 3:
            return False
        return value[0] in words and self.is_atom(value[1]) and self.is_atom(value[2])

    def is_change(self, name, expression):
        """Return whether a variable can be changed by an expression."""
        if not self.is_variable(name):
            return False
        if self.is_triple(expression, OPERATORS):
            return name not in expression[1:]
        return self.is_atom(expression) and expression != name

    def is_swap(self, one, two):
        """Return whether two values are different variables."""
        return self.is_variable(one) and self.is_variable(two) and one != two

    def is_called(self, name):
        """Return whether a value is a procedure that a statement may call."""
        return name in self.names and name != "main"

    def is_simple(self, statement):
        """Return whether a value is a statement without bodies."""
        word = statement[0]
        if len(statement) == 2:
            return word in CALLS and self.is_called(statement[1])
        if len(statement) != 3:
            return False
        if word in CHANGES:
            return self.is_change(statement[1], statement[2])
        return word == "swap" and self.is_swap(statement[1], statement[2])

    def check_body(self, body, depth):
        """Raise BadProgram unless a value is a body that may stand at this depth."""
        if depth > MOST_DEPTH:
            raise BadProgram("the bodies are too deep")
        if not isinstance(body, tuple):
            raise BadProgram("a body is not a tuple")
        for statement in body:
            # Counted at once, so that bodies that share their parts cannot take endless time.
            self.many += 1
            if self.many > MOST_STATEMENTS:
                raise BadProgram("there are too many statements")
            self.check_statement(statement, depth)

    def check_statement(self, statement, depth):
        """Raise BadProgram unless a value is a statement that may stand in a body of this depth."""
        if not isinstance(statement, tuple) or len(statement) == 0:
            raise BadProgram("a statement is not a tuple that begins with a word")
        if statement[0] not in BRANCHES:
            if not self.is_simple(statement):
                raise BadProgram("a statement is none of the language")
            return
        if len(statement) != 5:
            raise BadProgram("a statement is too short or too long")
        if not self.is_triple(statement[1], RELATIONS) or not self.is_triple(statement[4], RELATIONS):
            raise BadProgram("a condition is none of the language")
        self.check_body(statement[2], depth + 1)
        self.check_body(statement[3], depth + 1)


class Program:
    """A program: its width, its variables, and its procedures with their bodies."""

    def __init__(self, width, variables, procedures):
        if not is_number(width, 1, 8):
            raise BadProgram("the width is not from 1 to 8")
        if not is_variables(variables):
            raise BadProgram("the variables are not a tuple of 1 to 6 different names")
        if not isinstance(procedures, dict) or len(procedures) > MOST_PROCEDURES:
            raise BadProgram("the procedures are not a dict of at most 8")
        names = list(procedures)
        if not all([is_name(name) for name in names]):
            raise BadProgram("a procedure's name is no name")
        if "main" not in names:
            raise BadProgram("there is no main")
        self.width = width
        self.variables = variables
        self.names = tuple(sorted(names))
        self._bodies = {name: procedures[name] for name in names}
        checker = Checker(width, variables, self.names)
        for name in self.names:
            checker.check_body(self._bodies[name], 0)

    def body(self, name):
        """Return the body of a procedure."""
        if name not in self.names:
            raise BadProgram("there is no such procedure")
        return self._bodies[name]


def is_store(value, program):
    """Return whether a value is a tuple of one number of the program's width for each variable."""
    return are_numbers(value, 0, (1 << program.width) - 1) and len(value) == len(program.variables)
