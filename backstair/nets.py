"""Nets of gates that can be undone."""

from backstair.errors import BadBits, BadNet
from backstair.kinds import are_numbers, is_number

MOST_LINES = 400
MOST_GATES = 100000


def are_controls(value, lines):
    """Return whether a value is a tuple of numbers of lines in ascending order, none of them twice."""
    if not isinstance(value, tuple):
        return False
    last = -1
    # One loop for all, because a net may have some millions of controls.
    for line in value:
        if isinstance(line, bool) or not isinstance(line, int) or line <= last:
            return False
        last = line
    return last < lines


def is_gate(value, lines):
    """Return whether a value is a gate of a net with so many lines."""
    if not isinstance(value, tuple) or len(value) < 3:
        return False
    word, controls = value[:2]
    turned = value[2:]
    if (word, len(turned)) not in (("turn", 1), ("swap", 2)):
        return False
    if not are_numbers(turned, 0, lines - 1) or not are_controls(controls, lines):
        return False
    if word == "swap" and turned[0] == turned[1]:
        return False
    return not any([line in controls for line in turned])


def passed(gates, bits):
    """Return the tuple of the bits after all gates, one after the other."""
    bits = list(bits)
    for gate in gates:
        for line in gate[1]:
            if bits[line] == 0:
                break
        else:
            if gate[0] == "turn":
                bits[gate[2]] = 1 - bits[gate[2]]
            else:
                bits[gate[2]], bits[gate[3]] = bits[gate[3]], bits[gate[2]]
    return tuple(bits)


class Net:
    """A net of gates on lines with the numbers from 0."""

    def __init__(self, lines, gates):
        if not is_number(lines, 1, MOST_LINES):
            raise BadNet("the number of lines is not from 1 to 400")
        if not isinstance(gates, list) or len(gates) > MOST_GATES:
            raise BadNet("the gates are not a list of at most 100000")
        for gate in gates:
            if not is_gate(gate, lines):
                raise BadNet("a member of the list is not a gate")
        self.lines = lines
        self._gates = list(gates)

    def gates(self):
        """Return the list of the gates."""
        return list(self._gates)

    def run(self, bits):
        """Return the bits after all gates."""
        self._need_bits(bits)
        return passed(self._gates, bits)

    def back(self, bits):
        """Return the bits from which `run` leads to these."""
        self._need_bits(bits)
        return passed(self._gates[::-1], bits)

    def _need_bits(self, bits):
        """Raise BadBits unless a value is a tuple of one bit for each line."""
        if not are_numbers(bits, 0, 1) or len(bits) != self.lines:
            raise BadBits("the bits are not a tuple of one bit for each line")


def inverse_net(net):
    """Return the net that does what a net does backwards."""
    return Net(net.lines, net.gates()[::-1])


def joined_nets(first, second):
    """Return the net with the gates of two nets, one after the other."""
    if first.lines != second.lines:
        raise BadNet("the nets have different numbers of lines")
    return Net(first.lines, first.gates() + second.gates())


def with_controls(controls, more):
    """Return the controls with some more, in ascending order."""
    return tuple(sorted(controls + more))


def controlled(net, line):
    """Return the net with a line added to the controls of every gate."""
    if not is_number(line, 0, net.lines - 1):
        raise BadNet("there is no such line")
    # A gate that uses the line would not be a gate with it as a control: Net raises BadNet.
    return Net(net.lines, [(gate[0], with_controls(gate[1], (line,))) + gate[2:] for gate in net.gates()])


def turns_of(gate):
    """Return the turns that do what a gate does."""
    if gate[0] == "turn":
        return [gate]
    _, controls, one, two = gate
    outer = ("turn", with_controls(controls, (one,)), two)
    return [outer, ("turn", with_controls(controls, (two,)), one), outer]


def simple_turns(turn, lent):
    """Return turns with at most two controls that do what a turn does, with lent lines from this one on."""
    _, controls, line = turn
    if len(controls) <= 2:
        return [turn]
    # Each lent line tells whether the controls up to one of them are all 1.
    noted = [("turn", controls[:2], lent)]
    for at in range(2, len(controls) - 1):
        noted.append(("turn", (controls[at], lent + at - 2), lent + at - 1))
    last = ("turn", (controls[-1], lent + len(controls) - 3), line)
    return noted + [last] + noted[::-1]


def simple(net):
    """Return a net that does the same by turns with at most two controls, with lines that are lent."""
    lines = net.lines
    gates = []
    for gate in net.gates():
        for turn in turns_of(gate):
            lines = max(lines, net.lines + len(turn[1]) - 2)
            gates += simple_turns(turn, net.lines)
        # Without this the list could become some hundred times as long as a net's.
        if len(gates) > MOST_GATES:
            raise BadNet("there would be too many gates")
    return Net(lines, gates)
