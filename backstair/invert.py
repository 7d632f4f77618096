"""The inverses of programs, written down by looking at their text."""

from backstair.lang import Program

OPPOSITES = {"+=": "-=", "-=": "+=", "call": "uncall", "uncall": "call"}


def inverse_statement(statement):
    """Return the inverse of a statement."""
    if statement[0] in ("if", "from"):
        word, before, one, two, after = statement
        return (word, after, inverse_of(one), inverse_of(two), before)
    return (OPPOSITES.get(statement[0], statement[0]),) + statement[1:]


def inverse_of(body):
    """Return the inverse of a body."""
    return tuple([inverse_statement(statement) for statement in body[::-1]])


def inverse_program(program):
    """Return the program in which the body of main is replaced by its inverse."""
    procedures = {name: program.body(name) for name in program.names}
    procedures["main"] = inverse_of(program.body("main"))
    return Program(program.width, program.variables, procedures)
