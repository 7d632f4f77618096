"""Gates that add on lines: what a program works out, as sums of powers of two.

A term is a tuple (sign, power, controls): it adds 2 ** power, or subtracts it if the sign is -1, if all its controls
are 1. The lines of a number stand lowest bit first.
"""


def turn(controls, line):
    """Return the gate that turns a line if all controls are 1."""
    # An atom may stand twice in an expression, and its lines then among the controls, too.
    return ("turn", tuple(sorted(set(controls))), line)


def atom_terms(atom, wires):
    """Return the terms of an atom; `wires` has the lines of each variable."""
    if isinstance(atom, str):
        return [(1, power, (line,)) for power, line in enumerate(wires[atom])]
    return [(1, power, ()) for power in range(atom.bit_length()) if (atom >> power) & 1 == 1]


def opposite(terms):
    """Return the terms that subtract what some terms add."""
    return [(-sign, power, controls) for sign, power, controls in terms]


def product_terms(one, two):
    """Return the terms of the product of two atoms, from their terms."""
    return [(1, low + high, few + more) for _, low, few in one for _, high, more in two]


def common_terms(one, two):
    """Return the terms of the bits that two atoms have in common, from their terms."""
    return [(1, low, few + more) for _, low, few in one for _, high, more in two if low == high]


def expression_terms(expression, wires):
    """Return the terms of an expression."""
    if not isinstance(expression, tuple):
        return atom_terms(expression, wires)
    operator = expression[0]
    one = atom_terms(expression[1], wires)
    two = atom_terms(expression[2], wires)
    if operator == "+":
        return one + two
    if operator == "-":
        return one + opposite(two)
    if operator == "*":
        return product_terms(one, two)
    common = common_terms(one, two)
    if operator == "&":
        return common
    if operator == "|":
        return one + two + opposite(common)
    return one + two + opposite([(sign, power + 1, controls) for sign, power, controls in common])


def power_gates(power, controls, target):
    """Return the gates that add 2 ** power to the number on the lines of `target` if all controls are 1."""
    # From the highest bit down, because each bit has to see those below it as they were.
    return [turn(controls + target[power:at], target[at]) for at in reversed(range(power, len(target)))]


def sum_gates(terms, control, target):
    """Return the gates that add terms to the number on the lines of `target` if the control is 1, too."""
    gates = []
    for sign, power, controls in terms:
        added = power_gates(power, controls + control, target)
        gates += added if sign == 1 else added[::-1]
    return gates


def change_gates(statement, control, wires, lent):
    """Return the gates of a statement that changes a variable; they do nothing if the control is not 1."""
    word, name, expression = statement
    terms = expression_terms(expression, wires)
    target = wires[name]
    if word == "+=":
        return sum_gates(terms, control, target)
    if word == "-=":
        return sum_gates(terms, control, target)[::-1]
    worked_out = sum_gates(terms, (), lent[:len(target)])
    combined = [turn(control + (source,), line) for source, line in zip(lent, target)]
    return worked_out + combined + worked_out[::-1]


def swap_gates(statement, control, wires):
    """Return the gates that exchange two variables if the control is 1."""
    return [("swap", control, one, two) for one, two in zip(wires[statement[1]], wires[statement[2]])]


def condition_gates(condition, control, flag, wires, lent):
    """Return the gates that turn a flag if the control is 1 and a condition is true."""
    relation, one, two = condition
    terms = atom_terms(one, wires) + opposite(atom_terms(two, wires))
    difference = sum_gates(terms, (), lent)
    if relation == "<":
        # The lent lines have one bit more than the atoms: it is 1 if the difference is below 0.
        told = [turn(control + lent[-1:], flag)]
    else:
        ends = [turn((), line) for line in lent]
        told = ends + [turn(control + lent, flag)] + ends
        if relation == "!=":
            told.append(turn(control, flag))
    return difference + told + difference[::-1]
