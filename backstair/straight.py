"""Straight programs as nets of gates."""

from backstair.errors import BadStore, NotStraight, Refused
from backstair.invert import inverse_of
from backstair.lang import BRANCHES, CALLS, is_store
from backstair.nets import MOST_GATES, MOST_LINES, Net
from backstair.sums import change_gates, swap_gates, condition_gates, turn


def statements_in(body):
    """Return the list of all statements of a body, those within others too."""
    found = []
    for statement in body:
        found.append(statement)
        if statement[0] in BRANCHES:
            found += statements_in(statement[2]) + statements_in(statement[3])
    return found


def order_of(program):
    """Return the names of a program's procedures, each behind those that it calls."""
    calls = {}
    for name in program.names:
        statements = statements_in(program.body(name))
        if any([statement[0] == "from" for statement in statements]):
            raise NotStraight("the program has a loop")
        calls[name] = [statement[1] for statement in statements if statement[0] in CALLS]
    order = []
    while len(order) < len(program.names):
        free = [name for name in program.names
                if name not in order and all([called in order for called in calls[name]])]
        if len(free) == 0:
            raise NotStraight("calls lead round")
        order += free
    return order


class Weaver:
    """Lays the gates of a straight program, and counts the flags that they need."""

    def __init__(self, program):
        width = program.width
        first_lent = width * len(program.variables)
        self.wires = {name: tuple(range(at * width, (at + 1) * width)) for at, name in enumerate(program.variables)}
        self.lent = tuple(range(first_lent, first_lent + width + 1))
        self.lines = first_lent + width + 1
        self.laid = []
        self.bodies = {}
        for name in order_of(program):
            body = self.slim(program.body(name))
            self.bodies[("call", name)] = body
            self.bodies[("uncall", name)] = inverse_of(body)

    def slim(self, body):
        """Return a body without the statements that need no gates."""
        # Calls within calls can run such statements more often than there is time for.
        found = []
        for statement in body:
            word = statement[0]
            if word == "if":
                found.append((word, statement[1], self.slim(statement[2]), self.slim(statement[3]), statement[4]))
            elif word in CALLS:
                if self.bodies[statement] != ():
                    found.append(statement)
            elif len(self.simple_gates(statement, ())) > 0:
                found.append(statement)
        return tuple(found)

    def simple_gates(self, statement, control):
        """Return the gates of a statement without bodies that is no call."""
        if statement[0] == "swap":
            return swap_gates(statement, control, self.wires)
        return change_gates(statement, control, self.wires, self.lent)

    def lay(self, gates):
        """Add gates behind those that are there."""
        self.laid += gates
        if len(self.laid) > MOST_GATES:
            raise NotStraight("there would be too many gates")

    def new_flag(self):
        """Return the line of a new flag."""
        self.lines += 1
        if self.lines > MOST_LINES:
            raise NotStraight("there would be too many lines")
        return self.lines - 1

    def lay_body(self, body, control):
        """Lay the gates of a body, which do nothing if the control is not 1."""
        for statement in body:
            if statement[0] == "if":
                self.lay_if(statement, control)
            elif statement[0] in CALLS:
                self.lay_body(self.bodies[statement], control)
            else:
                self.lay(self.simple_gates(statement, control))

    def lay_if(self, statement, control):
        """Lay the gates of an "if", with a flag of its own."""
        _, before, one, two, after = statement
        flag = self.new_flag()
        # The flag is never 1 where the control is not, so it is control enough for what is within.
        self.lay(condition_gates(before, control, flag, self.wires, self.lent))
        self.lay_body(one, (flag,))
        self.lay([turn(control, flag)])
        self.lay_body(two, (flag,))
        self.lay([turn(control, flag)])
        self.lay(condition_gates(after, control, flag, self.wires, self.lent))


def net_of(program):
    """Return the net of a straight program."""
    weaver = Weaver(program)
    weaver.lay_body(weaver.bodies[("call", "main")], ())
    return Net(weaver.lines, weaver.laid)


def bits_of(program, store):
    """Return the bits of a store, the lowest ones of each variable first."""
    return tuple([(number >> at) & 1 for number in store for at in range(program.width)])


def store_of(program, bits):
    """Return the store of the first bits of a tuple."""
    width = program.width
    store = []
    for start in range(0, width * len(program.variables), width):
        store.append(sum([bits[start + at] << at for at in range(width)]))
    return tuple(store)


def net_answer(program, store):
    """Return the store at the end of a straight program, worked out by its net."""
    if not is_store(store, program):
        raise BadStore("the store does not have one number for each variable")
    net = net_of(program)
    bits = bits_of(program, store)
    end = net.run(bits + (0,) * (net.lines - len(bits)))
    # What is lent besides the flags is always 0 at the end.
    if 1 in end[len(bits):]:
        raise Refused(-1, store)
    return store_of(program, end)
