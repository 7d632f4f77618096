"""[0.5], [5.1] to [5.5]: nets of gates."""

import itertools
import unittest

from backstair.errors import BadBits, BadNet
from backstair.nets import Net, controlled, inverse_net, joined_nets, simple
from tests.oracle import ODD, rng_of

GATES = [("turn", (), 0), ("turn", (0,), 1), ("turn", (0, 2), 1), ("swap", (), 0, 3), ("swap", (1,), 3, 2),
         ("swap", (0, 1), 2, 3), ("turn", (0, 1, 2), 3)]
# What is no gate of a net with four lines.
NO_CONTROLS = [[], [0], [0, 1], None, 0, True, "", "0", {}, {0: 1}, {0}, object(), (4,), (-1,), (True,), (False,), (None,),
               ("0",), ((0,),), ([],), (0, 4), (-1, 0), (1, 0), (0, 0), (1, 1), (0, 1, 0), (0, True), (False, 1),
               (10 ** 30,), (0, None), (0.0,), (2,), (0, 2), (1, 2), (2, 3)]
NO_LINES = [4, -1, 5, 400, True, False, None, "", "0", (), (0,), [0], 10 ** 30, -10 ** 30, 1.0, object()]
NO_GATES = [odd for odd in ODD] + [
    ("turn",), ("swap",), ("turn", ()), ("swap", ()), ("swap", (), 0), ("turn", 0), ("turn", 0, ()), ("swap", 0, 1),
    ("turn", (), 0, 1), ("swap", (), 0, 1, 2), ("turn", (), (0,)), ("swap", (), (0, 1)), ["turn", (), 0],
    ["swap", (), 0, 1], ("Turn", (), 0), ("turns", (), 0), ("", (), 0), ("not", (), 0), ("cross", (), 0, 1),
    (None, (), 0), (0, (), 0), (b"turn", (), 0), (("turn",), (), 0), (["turn"], (), 0), ({}, (), 0), (("turn", (), 0),),
    ("turn", (0,), 0), ("turn", (0, 1, 2), 1), ("turn", (3,), 3), ("swap", (), 0, 0), ("swap", (1,), 3, 3),
    ("swap", (0,), 0, 1), ("swap", (1,), 0, 1), ("swap", (0, 1), 0, 1), ("swap", (1, 3), 0, 3), "turn", "swap"]
NO_GATES += [("turn", wrong, 2) for wrong in NO_CONTROLS] + [("swap", wrong, 2, 3) for wrong in NO_CONTROLS]
NO_GATES += [("swap", wrong, 3, 2) for wrong in NO_CONTROLS]
NO_GATES += [("turn", (), wrong) for wrong in NO_LINES] + [("turn", (0,), wrong) for wrong in NO_LINES]
NO_GATES += [("swap", (), 2, wrong) for wrong in NO_LINES] + [("swap", (), wrong, 2) for wrong in NO_LINES]


def after(gates, bits):
    """Return the bits after gates, one after the other, by the words of the document."""
    for gate in gates:
        if all(bits[line] for line in gate[1]):
            lines = gate[2:]
            changed = {lines[0]: 1 - bits[lines[0]]}
            if gate[0] == "swap":
                changed = {lines[0]: bits[lines[1]], lines[1]: bits[lines[0]]}
            bits = tuple(changed.get(line, bit) for line, bit in enumerate(bits))
    return bits


def all_bits(many):
    """Return all tuples of so many bits."""
    return list(itertools.product((0, 1), repeat=many))


def all_gates(lines):
    """Return all gates of a net with so many lines."""
    found = []
    for many in range(lines):
        for controls in itertools.combinations(range(lines), many):
            free = [line for line in range(lines) if line not in controls]
            found += [("turn", controls, line) for line in free]
            found += [("swap", controls, one, two) for one, two in itertools.permutations(free, 2)]
    return found


def some_gate(rng, lines, most=9):
    """Return some gate of a net with so many lines."""
    order = rng.sample(range(lines), min(lines, most + 1))
    if lines > 1 and rng.randrange(2):
        return ("swap", tuple(sorted(order[2:2 + rng.randrange(most)])), order[0], order[1])
    return ("turn", tuple(sorted(order[1:1 + rng.randrange(most)])), order[0])


def some_net(rng, lines, many, most=9):
    """Return some net."""
    return Net(lines, [some_gate(rng, lines, most) for _ in range(many)])


def some_bits(rng, many):
    """Return some bits."""
    return tuple(rng.randrange(2) for _ in range(many))


class Sizes(unittest.TestCase):
    def test_lines(self):
        for lines in range(1, 401):
            self.assertEqual(Net(lines, []).lines, lines)
            self.assertEqual(Net(lines, [("turn", tuple(range(lines - 1)), lines - 1)]).lines, lines)
            with self.assertRaises(BadNet):
                Net(lines, [("turn", (), lines)])
            with self.assertRaises(BadNet):
                Net(lines, [("turn", (lines,), 0)])
        for lines in [0, 401, -1, 402, 10 ** 30, True, False, None, "3", (3,)]:
            with self.assertRaises(BadNet):
                Net(lines, [])
        with self.assertRaises(BadNet):
            Net(True, [("turn", (), 0)])

    def test_gates(self):
        gate = ("turn", (1, 2), 0)
        self.assertEqual(len(Net(400, [gate] * 100000).gates()), 100000)
        with self.assertRaises(BadNet):
            Net(400, [gate] * 100001)
        with self.assertRaises(BadNet):
            Net(400, [gate] * 99999 + [("turn", (1, 2), 1)])

    def test_no_lists(self):
        for gates in [None, (), tuple(GATES), "turn", 0, {}, {0: GATES[0]}]:
            with self.assertRaises(BadNet):
                Net(4, gates)


class Gates(unittest.TestCase):
    def test_all_small_gates(self):
        for lines in (1, 2, 3, 4):
            gates = all_gates(lines)
            self.assertEqual(len(set(gates)), len(gates))
            for gate in gates:
                self.assertEqual(Net(lines, [gate]).gates(), [gate])

    def test_no_gates(self):
        for wrong in NO_GATES:
            for gates in [[wrong], [wrong] + GATES, GATES + [wrong]]:
                with self.assertRaises(BadNet, msg=repr(wrong)):
                    Net(4, gates)

    def test_lists_are_copied(self):
        gates = list(GATES)
        net = Net(4, gates)
        gates[0] = ("turn", (), 3)
        gates.append(("turn", (), 0))
        self.assertEqual(net.gates(), GATES)
        found = net.gates()
        found.clear()
        self.assertEqual(net.gates(), GATES)
        self.assertEqual(net.run((1, 0, 1, 0)), after(GATES, (1, 0, 1, 0)))
        passed = list(GATES)
        Net(4, passed).run((0, 0, 0, 0))
        self.assertEqual(passed, GATES)


class Runs(unittest.TestCase):
    def test_written_out(self):
        for gate, bits, there in [
                (("turn", (), 1), (0, 0), (0, 1)), (("turn", (), 1), (1, 1), (1, 0)), (("turn", (0,), 1), (0, 1), (0, 1)),
                (("turn", (0,), 1), (1, 1), (1, 0)), (("turn", (0, 2), 1), (1, 0, 1), (1, 1, 1)),
                (("turn", (0, 2), 1), (1, 0, 0), (1, 0, 0)), (("swap", (), 0, 1), (0, 1), (1, 0)),
                (("swap", (), 1, 0), (0, 1), (1, 0)), (("swap", (), 0, 1), (1, 1), (1, 1)),
                (("swap", (1,), 0, 2), (1, 1, 0), (0, 1, 1)), (("swap", (1,), 0, 2), (1, 0, 0), (1, 0, 0)),
                (("swap", (0, 3), 1, 2), (1, 1, 0, 1), (1, 0, 1, 1)), (("swap", (0, 3), 1, 2), (1, 1, 0, 0), (1, 1, 0, 0))]:
            net = Net(len(bits), [gate])
            self.assertEqual(net.run(bits), there, gate)
            self.assertEqual(net.back(there), bits, gate)

    def test_all_small_gates(self):
        for lines in (1, 2, 3, 4):
            for gate in all_gates(lines):
                net = Net(lines, [gate])
                for bits in all_bits(lines):
                    self.assertEqual(net.run(bits), after([gate], bits))
                    self.assertEqual(net.back(bits), after([gate], bits))

    def test_order_of_the_gates(self):
        net = Net(3, [("turn", (0,), 1), ("turn", (1,), 2), ("swap", (), 0, 1)])
        self.assertEqual(net.run((1, 0, 0)), (1, 1, 1))
        self.assertEqual(net.run((0, 1, 0)), (1, 0, 1))
        self.assertEqual(net.back((1, 0, 1)), (0, 1, 0))
        self.assertEqual(net.back((1, 0, 0)), (0, 1, 1))

    def test_there_and_back(self):
        rng = rng_of(81)
        for lines in (1, 2, 5, 6):
            for many in (0, 1, 7, 30):
                net = some_net(rng, lines, many)
                found = {}
                for bits in all_bits(lines):
                    found[bits] = net.run(bits)
                    self.assertEqual(found[bits], after(net.gates(), bits))
                    self.assertIsInstance(found[bits], tuple)
                    self.assertEqual(net.back(found[bits]), bits)
                    self.assertEqual(net.run(net.back(bits)), bits)
                self.assertEqual(len(set(found.values())), 2 ** lines)

    def test_without_gates(self):
        for bits in all_bits(3):
            self.assertEqual((Net(3, []).run(bits), Net(3, []).back(bits)), (bits, bits))

    def test_greatest(self):
        rng = rng_of(82)
        net = some_net(rng, 400, 100000, 4)
        bits = some_bits(rng, 400)
        there = net.run(bits)
        self.assertNotEqual(there, bits)
        self.assertEqual(net.back(there), bits)
        self.assertEqual(inverse_net(net).run(there), bits)
        few = Net(400, net.gates()[:300])
        self.assertEqual(few.run(bits), after(few.gates(), bits))

    def test_many_controls(self):
        gates = [("turn", tuple(at for at in range(400) if at != line), line) for line in range(400)]
        net = Net(400, gates)
        self.assertEqual(net.run((1,) * 400), (0,) + (1,) * 399)
        self.assertEqual(net.back((0,) + (1,) * 399), (1,) * 400)
        self.assertEqual(net.run((0,) * 400), (0,) * 400)

    def test_wrong_bits(self):
        wrong = [(), (0,), (0, 1), (0, 1, 0, 1), [0, 1, 0], [], "010", b"\x00\x01\x00", None, 0, 2, (0, 2, 0), (0, -1, 0),
                 (0, True, 0), (False, 0, 0), (0, 0, None), (0, "1", 0), (0, 1.0, 0), ((0,), 0, 0), (0, 0, 10 ** 30),
                 {0: 0, 1: 0, 2: 0}, (0, 0, 0, 2)] + ODD
        for net in [Net(3, []), Net(3, [("turn", (0,), 1)])]:
            for bits in wrong:
                with self.assertRaises(BadBits, msg=repr(bits)):
                    net.run(bits)
                with self.assertRaises(BadBits, msg=repr(bits)):
                    net.back(bits)
        for bits in [(True,), (False,), [0], (2,), (-1,)]:
            with self.assertRaises(BadBits):
                Net(1, []).run(bits)


class Others(unittest.TestCase):
    def test_inverse(self):
        self.assertEqual(inverse_net(Net(4, GATES)).gates(), GATES[::-1])
        self.assertEqual(inverse_net(Net(1, [])).gates(), [])
        rng = rng_of(83)
        for lines in (1, 3, 5):
            net = some_net(rng, lines, 20)
            found = inverse_net(net)
            self.assertIsInstance(found, Net)
            self.assertEqual((found.lines, found.gates()), (lines, net.gates()[::-1]))
            for bits in all_bits(lines):
                self.assertEqual(found.run(bits), net.back(bits))
                self.assertEqual(found.back(bits), net.run(bits))

    def test_joined(self):
        first, second = Net(4, GATES[:3]), Net(4, GATES[3:])
        self.assertEqual(joined_nets(first, second).gates(), GATES)
        self.assertEqual(joined_nets(second, first).gates(), GATES[3:] + GATES[:3])
        self.assertEqual(joined_nets(first, Net(4, [])).gates(), GATES[:3])
        self.assertEqual(joined_nets(first, first).gates(), GATES[:3] * 2)
        self.assertEqual((first.gates(), second.gates()), (GATES[:3], GATES[3:]))
        for bits in all_bits(4):
            self.assertEqual(joined_nets(first, second).run(bits), second.run(first.run(bits)))

    def test_joined_nets_that_do_not_fit(self):
        for one, two in [(1, 2), (2, 1), (3, 4), (400, 399)]:
            with self.assertRaises(BadNet):
                joined_nets(Net(one, []), Net(two, []))
            with self.assertRaises(BadNet):
                joined_nets(Net(one, [("turn", (), 0)]), Net(two, [("turn", (), 0)]))

    def test_joined_nets_with_many_gates(self):
        one, two = Net(1, [("turn", (), 0)] * 50000), Net(1, [("turn", (), 0)] * 50001)
        self.assertEqual(len(joined_nets(one, one).gates()), 100000)
        with self.assertRaises(BadNet):
            joined_nets(one, two)
        with self.assertRaises(BadNet):
            joined_nets(two, one)

    def test_controlled(self):
        gates = [("turn", (), 0), ("turn", (3,), 0), ("turn", (0, 4), 3), ("swap", (), 0, 4), ("swap", (1, 3), 0, 4)]
        net = Net(5, gates)
        self.assertEqual(controlled(net, 2).gates(), [
            ("turn", (2,), 0), ("turn", (2, 3), 0), ("turn", (0, 2, 4), 3), ("swap", (2,), 0, 4), ("swap", (1, 2, 3), 0, 4)])
        self.assertEqual(controlled(net, 2).lines, 5)
        self.assertEqual(net.gates(), gates)
        for bits in all_bits(5):
            self.assertEqual(controlled(net, 2).run(bits), net.run(bits) if bits[2] else bits)
        self.assertEqual(controlled(Net(2, []), 0).gates(), [])
        self.assertEqual(controlled(Net(1, []), 0).gates(), [])

    def test_controlled_by_a_line_that_a_gate_uses(self):
        for gate, used in [(("turn", (), 1), (1,)), (("turn", (0, 3), 1), (0, 1, 3)), (("swap", (), 3, 0), (0, 3)),
                           (("swap", (1,), 2, 4), (1, 2, 4))]:
            for line in range(5):
                for gates in [[gate], [("turn", (), 5), gate], [gate, ("turn", (), 5)]]:
                    net = Net(6, gates)
                    if line in used:
                        with self.assertRaises(BadNet):
                            controlled(net, line)
                    else:
                        self.assertEqual(len(controlled(net, line).gates()), len(gates))
                    self.assertEqual(net.gates(), gates)

    def test_controlled_by_what_is_no_line(self):
        for gates in [[], [("turn", (), 2)]]:
            for line in [3, -1, 4, 400, True, False, None, "0", (0,), 10 ** 30]:
                with self.assertRaises(BadNet):
                    controlled(Net(3, gates), line)


def turns_of(gate):
    """Return the turns that [5.5] tells for a gate."""
    if gate[0] == "turn":
        return [gate]
    _, controls, i, j = gate
    return [("turn", tuple(sorted(controls + (other,))), line) for other, line in [(i, j), (j, i), (i, j)]]


def simple_gates(net):
    """Return the gates that [5.5] tells for a net, and the number of lent lines."""
    gates, most = [], 0
    for turn in [turn for gate in net.gates() for turn in turns_of(gate)]:
        controls = turn[1]
        k = len(controls)
        if k < 3:
            gates.append(turn)
            continue
        most = max(most, k - 2)
        lent = [net.lines + at for at in range(k - 2)]
        way = [("turn", (controls[0], controls[1]), lent[0])]
        for at in range(1, k - 2):
            way.append(("turn", (controls[at + 1], lent[at - 1]), lent[at]))
        gates += way + [("turn", (controls[k - 1], lent[k - 3]), turn[2])] + list(reversed(way))
    return gates, most


class Simple(unittest.TestCase):
    def check(self, net):
        """Compare the gates and the lines with what the document tells."""
        gates, most = simple_gates(net)
        before = net.gates()
        found = simple(net)
        self.assertIsInstance(found, Net)
        self.assertEqual((found.lines, found.gates()), (net.lines + most, gates))
        self.assertTrue(all(gate[0] == "turn" and len(gate[1]) <= 2 for gate in found.gates()))
        self.assertEqual(net.gates(), before)
        return found

    def test_written_out(self):
        for lines, gate, more, gates in [
                (1, ("turn", (), 0), 0, [("turn", (), 0)]),
                (3, ("turn", (0, 2), 1), 0, [("turn", (0, 2), 1)]),
                (4, ("turn", (0, 1, 3), 2), 1, [("turn", (0, 1), 4), ("turn", (3, 4), 2), ("turn", (0, 1), 4)]),
                (5, ("turn", (0, 1, 2, 3), 4), 2, [
                    ("turn", (0, 1), 5), ("turn", (2, 5), 6), ("turn", (3, 6), 4), ("turn", (2, 5), 6),
                    ("turn", (0, 1), 5)]),
                (2, ("swap", (), 0, 1), 0, [("turn", (0,), 1), ("turn", (1,), 0), ("turn", (0,), 1)]),
                (3, ("swap", (1,), 2, 0), 0, [("turn", (1, 2), 0), ("turn", (0, 1), 2), ("turn", (1, 2), 0)]),
                (4, ("swap", (0, 2), 1, 3), 1, [
                    ("turn", (0, 1), 4), ("turn", (2, 4), 3), ("turn", (0, 1), 4),
                    ("turn", (0, 2), 4), ("turn", (3, 4), 1), ("turn", (0, 2), 4),
                    ("turn", (0, 1), 4), ("turn", (2, 4), 3), ("turn", (0, 1), 4)])]:
            found = simple(Net(lines, [gate]))
            self.assertEqual((found.lines, found.gates()), (lines + more, gates), gate)

    def test_without_gates(self):
        found = simple(Net(7, []))
        self.assertEqual((found.lines, found.gates()), (7, []))

    def test_all_numbers_of_controls(self):
        for lines in range(1, 9):
            for many in range(lines):
                for line in {0, lines // 2, lines - 1}:
                    others = [at for at in range(lines) if at != line]
                    self.same(Net(lines, [("turn", tuple(others[:many]), line)]))
                    self.same(Net(lines, [("turn", tuple(others[len(others) - many:]), line)]))
            for many in range(lines - 1):
                for one, two in [(0, 1), (1, 0), (0, lines - 1), (lines - 1, 0), (lines - 2, lines - 1)]:
                    others = [at for at in range(lines) if at not in (one, two)]
                    self.same(Net(lines, [("swap", tuple(others[:many]), one, two)]))

    def same(self, net):
        """Look whether the simple net does the same, and leaves zeros."""
        found = self.check(net)
        zeros = (0,) * (found.lines - net.lines)
        for bits in all_bits(net.lines):
            self.assertEqual(found.run(bits + zeros), net.run(bits) + zeros)
            self.assertEqual(found.back(bits + zeros), net.back(bits) + zeros)

    def test_some_nets(self):
        rng = rng_of(84)
        for lines in (2, 3, 5, 7, 8):
            for many in (1, 5, 20):
                self.same(some_net(rng, lines, many))
        for _ in range(5):
            net = some_net(rng, 200, 50, 60)
            found = self.check(net)
            bits, zeros = some_bits(rng, 200), (0,) * (found.lines - 200)
            self.assertEqual(found.run(bits + zeros), net.run(bits) + zeros)

    def test_number_of_lines(self):
        for lines, many, wrong in [(200, 199, False), (201, 200, False), (201, 199, False), (202, 201, True),
                                   (202, 200, False), (400, 2, False), (400, 3, True), (399, 3, False), (399, 4, True)]:
            net = Net(lines, [("turn", tuple(range(1, many + 1)), 0)])
            if wrong:
                with self.assertRaises(BadNet):
                    simple(net)
            else:
                self.assertEqual(self.check(net).lines, lines + max(0, many - 2))
        for lines, many, wrong in [(400, 1, False), (400, 2, True), (399, 2, False), (399, 3, True), (201, 199, False),
                                   (202, 199, False), (203, 199, True), (202, 200, True)]:
            net = Net(lines, [("swap", tuple(range(2, many + 2)), 0, 1)])
            if wrong:
                with self.assertRaises(BadNet):
                    simple(net)
            else:
                self.assertEqual(self.check(net).lines, lines + max(0, many - 1))

    def test_number_of_gates(self):
        turn, long, swap = ("turn", (0, 1), 2), ("turn", (0, 1, 3), 2), ("swap", (), 0, 1)
        for gates, many in [([turn] * 100000, 100000), ([long] * 33333 + [turn], 100000), ([swap] * 33333, 99999)]:
            self.assertEqual(len(simple(Net(4, gates)).gates()), many)
        for gates in [[long] * 33333 + [turn] * 2, [turn] * 99998 + [long], [swap] * 33334, [long] * 100000,
                      [turn, long] * 50000, [("swap", tuple(range(2, 198)), 0, 1)] * 100000]:
            with self.assertRaises(BadNet):
                simple(Net(200, gates))
