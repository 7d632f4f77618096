"""[0.5], [5.6] to [5.8]: tables as nets."""

import itertools
import unittest

from backstair.errors import BackError, BadTable, NotClean
from backstair.nets import Net
from backstair.tables import table_net, table_of, turned_net
from tests.oracle import ODD, rng_of

AND = [(0,), (0,), (0,), (1,)]
# What is no table.
NO_TABLES = ODD + [
    [(0,)], [(0,)] * 3, [(0,)] * 5, [(0,)] * 7, [(0,)] * 63, [(0,)] * 65, [(0,)] * 128, [(0, 1)] * 127,
    [(0,), (1, 0)], [(0, 1), (1,)], [(0, 1), (1, 0), (0, 0, 0), (1, 1)], [(), ()], [()] * 64, [(0,) * 7] * 2, [(1,) * 7] * 64,
    [(0,) * 8] * 4, [(0,), (2,)], [(2,), (0,)], [(0,), (-1,)], [(0,), (True,)], [(False,), (1,)], [(0, 1), (1, True)],
    [(0,), (None,)], [(0,), ("1",)], [(0,), (1.0,)], [(0,), ((1,),)], [(0,), [1]], [[0], [1]], [[0, 1], (0, 1)], [0, 1],
    ["0", "1"], [b"\x00", b"\x01"], [None, None], [(0,), None], [(0,), ()], ((0,), (1,)), tuple(AND), {0: (0,), 1: (1,)},
    {(0,): 1, (1,): 0}, "01", [(0,), {0: 1}], [(0,), (10 ** 30,)]]


def words_of(many):
    """Return all words of so many bits in ascending order."""
    return list(itertools.product((0, 1), repeat=many))


def some_table(rng, k, m):
    """Return some table of k bits in and m bits out."""
    return [tuple(rng.randrange(2) for _ in range(m)) for _ in range(2 ** k)]


def some_turned(rng, k):
    """Return some table of k bits in and out in which no word occurs twice."""
    table = words_of(k)
    rng.shuffle(table)
    return table


def gates_told(table, k):
    """Return the gates that [5.6] tells."""
    gates = []
    for word, out in zip(words_of(k), table):
        for j, bit in enumerate(out):
            if bit:
                first = [("turn", (), i) for i in range(k) if word[i] == 0]
                gates += first
                gates.append(("turn", tuple(range(k)), k + j))
                gates += first
    return gates


def tables():
    """Return pairs (number of bits in, table) for all numbers of bits in and out."""
    rng = rng_of(91)
    found = [(k, some_table(rng, k, m)) for k in range(1, 7) for m in range(1, 7)]
    found += [(1, list(words)) for words in itertools.product(words_of(1), repeat=2)]
    found += [(1, list(words)) for words in itertools.product(words_of(2), repeat=2)]
    found += [(2, list(words)) for words in itertools.product(words_of(1), repeat=4)]
    return found + [(6, [(1,) * 6] * 64), (6, [(0,) * 6] * 64), (1, [(1,) * 6] * 2), (6, [(1,)] * 64)]


class TableNets(unittest.TestCase):
    def test_written_out(self):
        net = table_net(AND)
        self.assertIsInstance(net, Net)
        self.assertEqual((net.lines, net.gates()), (3, [("turn", (0, 1), 2)]))
        net = table_net([(1, 0), (1, 1)])
        self.assertEqual((net.lines, net.gates()), (3, [
            ("turn", (), 0), ("turn", (0,), 1), ("turn", (), 0), ("turn", (0,), 1), ("turn", (0,), 2)]))
        net = table_net([(0,), (1,), (0,), (0,), (1,), (0,), (0,), (0,)])
        self.assertEqual((net.lines, net.gates()), (4, [
            ("turn", (), 0), ("turn", (), 1), ("turn", (0, 1, 2), 3), ("turn", (), 0), ("turn", (), 1),
            ("turn", (), 1), ("turn", (), 2), ("turn", (0, 1, 2), 3), ("turn", (), 1), ("turn", (), 2)]))

    def test_gates(self):
        for k, table in tables():
            before = list(table)
            net = table_net(table)
            self.assertEqual((net.lines, net.gates()), (k + len(table[0]), gates_told(table, k)))
            self.assertEqual(table, before)

    def test_what_the_net_does(self):
        for k, table in tables():
            net, m = table_net(table), len(table[0])
            for word, out in zip(words_of(k), table):
                for others in words_of(m)[::1 if k < 4 else 5]:
                    there = word + tuple(bit ^ other for bit, other in zip(out, others))
                    self.assertEqual(net.run(word + others), there)
                    self.assertEqual(net.back(there), word + others)
                    self.assertEqual(net.run(there), word + others)

    def test_no_tables(self):
        for wrong in NO_TABLES:
            with self.assertRaises(BadTable, msg=repr(wrong)):
                table_net(wrong)
            with self.assertRaises(BadTable, msg=repr(wrong)):
                turned_net(wrong)
        self.assertTrue(issubclass(BadTable, BackError))

    def test_one_wrong_word_in_a_great_table(self):
        table = some_table(rng_of(92), 6, 6)
        for wrong in [table[:63], table + table[:1], table * 2, tuple(table), table[:63] + [(0,) * 5],
                      table[:63] + [(0,) * 7], [(0,) * 5] + table[1:], table[:63] + [(0, 0, 0, 0, 0, True)],
                      table[:30] + [(0, 0, 2, 0, 0, 0)] + table[31:], table[:63] + [[0] * 6], [word + (0,) for word in table]]:
            with self.assertRaises(BadTable):
                table_net(wrong)


class TablesOf(unittest.TestCase):
    def test_of_table_nets(self):
        for k, table in tables():
            net, m = table_net(table), len(table[0])
            gates = net.gates()
            found = table_of(net, k, m)
            self.assertEqual(found, table)
            self.assertIsInstance(found, list)
            self.assertTrue(all(isinstance(word, tuple) for word in found))
            found.clear()
            self.assertEqual(table_of(net, k, m), table)
            self.assertEqual(net.gates(), gates)

    def test_other_numbers_of_bits(self):
        # The lines out are the ones behind the lines in, and those that are neither are lent.
        net = Net(4, [("turn", (0,), 1), ("turn", (), 2)])
        self.assertEqual(table_of(net, 1, 2), [(0, 1), (1, 1)])
        self.assertEqual(table_of(net, 1, 3), [(0, 1, 0), (1, 1, 0)])
        with self.assertRaises(NotClean):
            table_of(net, 2, 1)
        with self.assertRaises(NotClean):
            table_of(net, 1, 1)

    def test_more_lines(self):
        rng = rng_of(93)
        for k, m, lines in [(1, 1, 3), (2, 3, 7), (3, 2, 40), (6, 6, 400), (1, 6, 8), (6, 1, 12)]:
            table = some_table(rng, k, m)
            net = table_net(table)
            # A lent line is used, and given back.
            gate = ("turn", tuple(range(k)), lines - 1)
            wide = Net(lines, [gate] + net.gates() + [gate])
            self.assertEqual(table_of(wide, k, m), table)
            self.assertEqual(table_of(Net(lines, net.gates()), k, m), table)
            self.assertEqual(table_of(Net(lines, []), k, m), [(0,) * m] * 2 ** k)

    def test_not_clean(self):
        for k in (1, 2, 3, 6):
            for m in (1, 2, 6):
                table = some_table(rng_of(94), k, m)
                gates = table_net(table).gates()
                for line in range(k):
                    with self.assertRaises(NotClean):
                        table_of(Net(k + m, gates + [("turn", (), line)]), k, m)
                for line in range(k + m, k + m + 3):
                    with self.assertRaises(NotClean):
                        table_of(Net(k + m + 3, gates + [("turn", (), line)]), k, m)
        self.assertTrue(issubclass(NotClean, BackError))

    def test_not_clean_for_one_word_only(self):
        for k, m in [(1, 1), (2, 1), (3, 2), (6, 6)]:
            table = some_table(rng_of(95), k, m)
            gates = table_net(table).gates()
            for word in words_of(k):
                zeros = [("turn", (), line) for line in range(k) if word[line] == 0]
                lent = Net(k + m + 1, gates + zeros + [("turn", tuple(range(k)), k + m)] + zeros)
                with self.assertRaises(NotClean):
                    table_of(lent, k, m)
                # The line in is turned for this word alone, by way of a lent line that is left clean or not.
                changed = Net(k + m + 1, lent.gates() + [("turn", (k + m,), k - 1)])
                with self.assertRaises(NotClean):
                    table_of(changed, k, m)
            for line in range(k):
                controls = tuple(other for other in range(k) if other != line)
                with self.assertRaises(NotClean):
                    table_of(Net(k + m, gates + [("turn", controls, line)]), k, m)

    def test_wrong_numbers(self):
        net = Net(20, [])
        for wrong in [0, 7, -1, 8, 64, 10 ** 30, True, False, None, "1", (1,), [1], 1.0]:
            with self.assertRaises(BadTable, msg=repr(wrong)):
                table_of(net, wrong, 1)
            with self.assertRaises(BadTable, msg=repr(wrong)):
                table_of(net, 1, wrong)
            with self.assertRaises(BadTable, msg=repr(wrong)):
                table_of(Net(2, [("turn", (), 0)]), wrong, wrong)

    def test_too_few_lines(self):
        for k in range(1, 7):
            for m in range(1, 7):
                for lines in range(1, 14):
                    net = Net(lines, [("turn", (), 0)])
                    error = BadTable if lines < k + m else NotClean
                    with self.assertRaises(error):
                        table_of(net, k, m)


class Turned(unittest.TestCase):
    def tables(self):
        rng = rng_of(96)
        found = [list(table) for k in (1, 2) for table in itertools.permutations(words_of(k))]
        return found + [some_turned(rng, k) for k in (3, 4, 5, 6, 6)] + [words_of(k) for k in range(1, 7)]

    def test_gates(self):
        for table in self.tables():
            before = list(table)
            k = len(table[0])
            undoes = [words_of(k)[table.index(word)] for word in words_of(k)]
            swaps = [("swap", (), i, k + i) for i in range(k)]
            net = turned_net(table)
            self.assertIsInstance(net, Net)
            self.assertEqual(net.lines, 2 * k)
            self.assertEqual(net.gates(), gates_told(table, k) + swaps + gates_told(undoes, k)[::-1])
            self.assertEqual(table, before)

    def test_there_and_back(self):
        for table in self.tables():
            net, k = turned_net(table), len(table[0])
            zeros = (0,) * k
            for word, out in zip(words_of(k), table):
                self.assertEqual(net.run(word + zeros), out + zeros)
                self.assertEqual(net.back(out + zeros), word + zeros)

    def test_written_out(self):
        self.assertEqual(turned_net([(1,), (0,)]).gates(), [
            ("turn", (), 0), ("turn", (0,), 1), ("turn", (), 0), ("swap", (), 0, 1),
            ("turn", (), 0), ("turn", (0,), 1), ("turn", (), 0)])
        self.assertEqual(turned_net([(0,), (1,)]).gates(), [
            ("turn", (0,), 1), ("swap", (), 0, 1), ("turn", (0,), 1)])

    def test_words_that_occur_twice(self):
        rng = rng_of(97)
        for k in range(1, 7):
            table = some_turned(rng, k)
            for at in range(1, 2 ** k):
                wrong = list(table)
                wrong[at] = table[at - 1]
                with self.assertRaises(BadTable):
                    turned_net(wrong)
            with self.assertRaises(BadTable):
                turned_net([(0,) * k] * 2 ** k)

    def test_unlike_numbers_of_bits(self):
        for k in range(1, 7):
            for m in range(1, 7):
                if k != m:
                    # If it can be, no word occurs twice.
                    table = [word[-m:] if m < k else (0,) * (m - k) + word for word in words_of(k)]
                    with self.assertRaises(BadTable):
                        turned_net(table)

    def test_too_great(self):
        for wrong in [words_of(7), words_of(8), [word + word for word in words_of(4)]]:
            with self.assertRaises(BadTable):
                turned_net(wrong)
