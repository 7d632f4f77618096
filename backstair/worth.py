"""What expressions and conditions are worth, in a form that is quick to work out."""


def atom_form(atom, variables):
    """Return an atom as a number: itself, or for a variable a number below 0."""
    if isinstance(atom, str):
        return -1 - variables.index(atom)
    return atom


def expression_form(expression, variables):
    """Return an expression as a tuple of an operator and the forms of two atoms."""
    if isinstance(expression, tuple):
        operator, one, two = expression
        return (operator, atom_form(one, variables), atom_form(two, variables))
    return ("+", atom_form(expression, variables), 0)


def condition_form(condition, variables):
    """Return a condition as a tuple of a relation and the forms of two atoms."""
    relation, one, two = condition
    return (relation, atom_form(one, variables), atom_form(two, variables))


def atom_worth(form, values):
    """Return the number that an atom is, with these values of the variables."""
    if form < 0:
        return values[-1 - form]
    return form


def expression_worth(form, values):
    """Return the number that an expression is, not yet cut to any width."""
    operator, one, two = form
    one = atom_worth(one, values)
    two = atom_worth(two, values)
    if operator == "+":
        return one + two
    if operator == "-":
        return one - two
    if operator == "*":
        return one * two
    if operator == "&":
        return one & two
    if operator == "|":
        return one | two
    return one ^ two


def holds(form, values):
    """Return whether a condition is true."""
    relation, one, two = form
    one = atom_worth(one, values)
    two = atom_worth(two, values)
    if relation == "==":
        return one == two
    if relation == "!=":
        return one != two
    return one < two
