"""[0.5], [5.9] to [5.14]: straight programs as nets."""

import itertools
import time
import unittest

from backstair.errors import BackError, BadStore, NotStraight, Refused
from backstair.invert import inverse_program
from backstair.lang import Program
from backstair.machine import answer
from backstair.nets import Net
from backstair.parse import program_of
from backstair.straight import bits_of, net_answer, net_of, store_of
from tests.oracle import ODD, rng_of
from tests.programs import OPERATORS, RELATIONS, inverse, some_parts, some_store, trace

EXAMPLE = "width 3\nvars a b\nproc main\na += b\nif a < 4 then\nb += 1\nelse\nb -= 1\nfi a < 4\nend\n"
TRUE, FALSE = ("==", 0, 0), ("!=", 0, 0)


def stores_of(width, many):
    """Return all stores of so many variables."""
    return list(itertools.product(range(2 ** width), repeat=many))


def bits_told(width, store):
    """Return the bits of a store, as [5.9] tells their order."""
    return tuple(int(digit) for number in store for digit in reversed(format(number, f"0{width}b")))


def met(procedures, body):
    """Return the list of the statements that are no calls, in the order in which they are met."""
    found = []
    for statement in body:
        if statement[0] == "call":
            found += met(procedures, procedures[statement[1]])
        elif statement[0] == "uncall":
            found += met(procedures, inverse(procedures[statement[1]]))
        else:
            found.append(statement)
            if statement[0] == "if":
                found += met(procedures, statement[2]) + met(procedures, statement[3])
    return found


def flags_of(program):
    """Return the number of flags that the net of a program must have."""
    procedures = {name: program.body(name) for name in program.names}
    return [statement[0] for statement in met(procedures, procedures["main"])].count("if")


def lines_told(program):
    """Return the number of lines that [5.9] tells."""
    return program.width * len(program.variables) + program.width + 1 + flags_of(program)


def columns_after(gates, columns, ones):
    """Return what the lines bear after gates, for many rows of bits at once: each line is a number with a bit for each."""
    columns = list(columns)
    for gate in gates:
        mask = ones
        for line in gate[1]:
            mask &= columns[line]
        if gate[0] == "turn":
            columns[gate[2]] ^= mask
        else:
            change = (columns[gate[2]] ^ columns[gate[3]]) & mask
            columns[gate[2]] ^= change
            columns[gate[3]] ^= change
    return columns


def ends_of(net, rows):
    """Return the rows of bits after a net, for many rows."""
    columns = [sum(row[line] << at for at, row in enumerate(rows)) for line in range(net.lines)]
    columns = columns_after(net.gates(), columns, 2 ** len(rows) - 1)
    return [tuple((column >> at) & 1 for column in columns) for at in range(len(rows))]


def without_loops(body):
    """Return a body with an "if" for each "from"."""
    found = []
    for statement in body:
        if statement[0] in ("if", "from"):
            _, c, one, two, d = statement
            statement = ("if", c, without_loops(one), without_loops(two), d)
        found.append(statement)
    return tuple(found)


def some_straight(rng, most=4):
    """Return the width, the variables and the procedures of some straight program."""
    while True:
        width, variables, procedures = some_parts(rng, most)
        order = sorted(procedures)
        found = {}
        for name in order:
            # A procedure calls only those before it; "main" may call all.
            allowed = [other for other in order if other < name or name == "main"]
            found[name] = called_only(without_loops(procedures[name]), allowed)
        if width * len(variables) <= 12:
            return width, variables, found


def called_only(body, names):
    """Return a body without the calls of all procedures but these."""
    found = []
    for statement in body:
        if statement[0] == "if":
            _, c, one, two, d = statement
            statement = ("if", c, called_only(one, names), called_only(two, names), d)
        if statement[0] not in ("call", "uncall") or statement[1] in names:
            found.append(statement)
    return tuple(found)


def program(*body, width=3, variables=("a", "b", "c"), **others):
    """Return a program with this body of main."""
    return Program(width, variables, {"main": tuple(body), **others})


class Checks(unittest.TestCase):
    def check(self, found, stores):
        """Compare the net of a program with the model of its runs."""
        width, variables = found.width, found.variables
        procedures = {name: found.body(name) for name in found.names}
        net = net_of(found)
        self.assertIsInstance(net, Net)
        self.assertEqual(net.lines, lines_told(found))
        self.assertLessEqual(len(net.gates()), 600 * len(met(procedures, procedures["main"])))
        zeros = (0,) * (net.lines - width * len(variables))
        first = width * len(variables) + width + 1
        kinds = set()
        for store, end in zip(stores, ends_of(net, [bits_told(width, store) + zeros for store in stores])):
            shown, kind = trace(width, variables, procedures, store, 10 ** 6)
            kinds.add(kind)
            if kind == "end":
                self.assertEqual(end, bits_told(width, shown[-1][2]) + zeros)
            else:
                self.assertIn(1, end[first:])
                self.assertNotIn(1, end[first - width - 1:first])
        return net, kinds

    def all_stores(self, found):
        """Compare the net of a program with the model for all stores."""
        return self.check(found, stores_of(found.width, len(found.variables)))

    def some_stores(self, found, rng, many=60):
        """Compare the net of a program with the model for some stores."""
        return self.check(found, [some_store(rng, found.width, found.variables) for _ in range(many)])


class Statements(Checks):
    def test_all_expressions(self):
        rng = rng_of(101)
        for width in range(1, 9):
            last = 2 ** width - 1
            atoms = ["b", "c", 0, last, rng.randrange(last + 1)]
            for sign in ("+=", "-=", "^="):
                for expression in atoms + [(operator, one, two) for operator in OPERATORS for one in atoms for two in atoms]:
                    found = program((sign, "a", expression), width=width)
                    if width < 3:
                        self.all_stores(found)
                    else:
                        self.some_stores(found, rng, 30)

    def test_greatest_expressions(self):
        # 600 gates at most for a statement, however wide it is.
        for sign in ("+=", "-=", "^="):
            for operator in OPERATORS:
                for one, two in [("b", "c"), ("b", "b"), ("b", 255), (255, "b"), (255, 255), (170, 85)]:
                    found = program((sign, "a", (operator, one, two)), width=8)
                    self.assertLessEqual(len(net_of(found).gates()), 600)
                    self.some_stores(found, rng_of(102), 200)

    def test_all_conditions(self):
        rng = rng_of(103)
        for width in range(1, 9):
            last = 2 ** width - 1
            atoms = ["b", "c", 0, last, rng.randrange(last + 1)]
            for condition in itertools.product(RELATIONS, atoms, atoms):
                found = program(("if", condition, (("+=", "a", 1),), (("^=", "a", last),), condition), width=width)
                stores = stores_of(width, 3) if width < 3 else [some_store(rng, width, "abc") for _ in range(30)]
                stores += [(0, 0, 0), (0, last, last), (0, 0, last), (0, last, 0)]
                kinds = self.check(found, stores)[1]
                self.assertEqual(kinds, {"end"})

    def test_conditions_that_are_refused(self):
        rng = rng_of(104)
        for width in (1, 2, 3, 8):
            last = 2 ** width - 1
            atoms = ["b", "c", 0, last]
            conditions = list(itertools.product(RELATIONS, atoms, atoms))
            for condition in conditions:
                for other in rng.sample(conditions, 4):
                    found = program(("if", condition, (("+=", "a", 1),), (("swap", "a", "b"),), other), width=width)
                    self.some_stores(found, rng, 40)

    def test_all_pairs_of_atoms_of_width_8(self):
        stores = [(0, one, two) for one in range(0, 256, 3) for two in range(0, 256, 5)]
        for relation in RELATIONS:
            condition = (relation, "b", "c")
            self.check(program(("if", condition, (("+=", "a", 1),), (), condition), width=8), stores)
        for operator in OPERATORS:
            self.check(program(("+=", "a", (operator, "b", "c")), width=8), stores)

    def test_swap(self):
        for width in (1, 2, 3):
            self.all_stores(program(("swap", "a", "c"), width=width))
            self.all_stores(program(("if", ("<", "b", 1), (("swap", "a", "c"),), (("swap", "c", "a"),) * 2, ("<", "b", 1)),
                                    width=width))
        self.some_stores(program(("swap", "b", "a"), width=8), rng_of(105))

    def test_bodies_under_a_flag(self):
        # The statements of the body that is not chosen change nothing.
        for expression in ["b", 3, ("*", "b", "c"), ("|", "b", "c"), ("^", "b", 5), ("-", 1, "c")]:
            for sign in ("+=", "-=", "^="):
                change = ((sign, "a", expression),)
                self.all_stores(program(("if", ("<", "b", "c"), change, (), ("<", "b", "c"))))
                self.all_stores(program(("if", ("!=", "b", "c"), (), change, ("!=", "b", "c"))))
                self.all_stores(program(("if", ("==", "b", "c"), change, change * 2, ("<", "a", 4))))


class Lines(unittest.TestCase):
    def test_without_ifs(self):
        for width in range(1, 9):
            for variables in [("a",), ("a", "b"), ("z", "y", "x", "main", "p", "q")]:
                for body in [(), (("+=", variables[0], 1),), (("^=", variables[-1], 1),) * 5]:
                    found = Program(width, variables, {"main": body})
                    self.assertEqual(net_of(found).lines, width * len(variables) + width + 1)

    def test_no_statements(self):
        for found in [program(), program(("call", "p"), ("uncall", "p"), p=()), program(p=(("swap", "a", "b"),))]:
            self.assertEqual((net_of(found).lines, net_of(found).gates()), (13, []))

    def test_flags(self):
        one = ("if", TRUE, (), (), TRUE)
        two = ("if", TRUE, (one, one), (("if", TRUE, (), (one,), TRUE),), TRUE)
        for body, others, flags in [
                ((one,), {}, 1), ((one, one), {}, 2), ((two,), {}, 5), ((one, two, one), {}, 7),
                ((("call", "p"),), {"p": (one,)}, 1), ((("uncall", "p"),), {"p": (two,)}, 5),
                ((("call", "p"), ("uncall", "p"), one), {"p": (two, one)}, 13),
                ((("call", "p"),), {"p": (("uncall", "q"), one), "q": (("call", "r"),) * 3, "r": (one, two)}, 19),
                ((("if", FALSE, (("call", "p"),), (("uncall", "p"),), FALSE),), {"p": (one,)}, 3),
                ((("if", FALSE, (), (), FALSE),), {"p": (two,)}, 1), ((), {"p": (two,)}, 0)]:
            found = program(*body, **others)
            self.assertEqual(net_of(found).lines, 13 + flags)

    def refusing(self, n):
        """Return an "if" that is refused exactly if a is n."""
        return ("if", TRUE, (), (), ("!=", "a", n))

    def flag_of(self, found, n):
        """Return the number of the only flag that is 1 in the end if a is n."""
        net = net_of(found)
        end = net.run(bits_told(3, (n, 0, 0)) + (0,) * (net.lines - 9))
        first = 9 + 4
        flags = [at for at, bit in enumerate(end[first:]) if bit == 1]
        self.assertEqual(len(flags), 1)
        return flags[0]

    def test_order_of_the_flags(self):
        r = [self.refusing(n) for n in range(8)]
        # Each "if" is refused for one value of a: its flag tells its place in the order.
        inner = ("if", TRUE, (r[1], ("if", TRUE, (r[2],), (), TRUE)), (), ("!=", "a", 0))
        other = ("if", FALSE, (), (r[5], r[6]), FALSE)
        for body, others, order in [
                ((r[0], r[1], r[2]), {}, {0: 0, 1: 1, 2: 2}),
                ((inner, r[3]), {}, {0: 0, 1: 1, 2: 3, 3: 4}),
                ((other, r[7]), {}, {5: 1, 6: 2, 7: 3}),
                ((r[0], ("call", "p"), r[1]), {"p": (r[2], r[3])}, {0: 0, 2: 1, 3: 2, 1: 3}),
                ((("call", "p"), r[4]), {"p": (("call", "q"), inner), "q": (r[6],)}, {6: 0, 0: 1, 1: 2, 2: 4, 4: 5}),
                ((("if", TRUE, (("call", "p"),), (("call", "p"),), TRUE), r[4]), {"p": (r[3],)}, {3: 1, 4: 3})]:
            for n, flag in order.items():
                self.assertEqual(self.flag_of(program(*body, **others), n), flag, (body, n))

    def test_order_of_the_flags_of_an_uncall(self):
        # Backwards an "if" is refused if its first condition does not hold after the chosen body.
        r = [("if", ("!=", "a", n), (), (), TRUE) for n in range(8)]
        outer = ("if", ("!=", "a", 0), (r[1], r[2]), (), TRUE)
        for body, others, order in [
                ((("uncall", "p"),), {"p": (r[1], r[2], r[3])}, {3: 0, 2: 1, 1: 2}),
                ((("uncall", "p"),), {"p": (r[3], outer, r[4])}, {4: 0, 0: 1, 2: 2, 1: 3, 3: 4}),
                ((("uncall", "p"),), {"p": (r[3], ("call", "q"), r[4]), "q": (r[5], r[6])}, {4: 0, 6: 1, 5: 2, 3: 3}),
                ((("uncall", "p"), self.refusing(1)), {"p": (("uncall", "q"), r[4]), "q": (self.refusing(5), self.refusing(6))},
                 {4: 0, 5: 1, 6: 2, 1: 3})]:
            for n, flag in order.items():
                self.assertEqual(self.flag_of(program(*body, **others), n), flag, (body, n))

    def test_first_body_before_the_second(self):
        r = [self.refusing(n) for n in range(8)]
        for test, chosen in [(TRUE, {1: 1, 2: 2}), (FALSE, {3: 3, 4: 4})]:
            found = program(("if", test, (r[1], r[2]), (r[3], r[4]), test))
            for n, flag in chosen.items():
                self.assertEqual(self.flag_of(found, n), flag)

    def test_greatest_number(self):
        one = (("if", ("==", "a", 0), (), (), ("==", "a", 0)),)
        for word in ("call", "uncall"):
            # One bit and two lent lines: 397 flags are just not too many.
            tens = {"p": one, "q": ((word, "p"),) * 20}
            for many, right in [(17, True), (18, False), (19, False)]:
                found = Program(1, ("a",), {"main": (("call", "q"),) * 19 + (("uncall", "p"),) * many, **tens})
                self.assertEqual(flags_of(found), 380 + many)
                if right:
                    self.assertEqual(net_of(found).lines, 400)
                    self.assertEqual(net_answer(found, (1,)), (1,))
                else:
                    with self.assertRaises(NotStraight):
                        net_of(found)
        wide = Program(8, tuple("abcdef"), {"main": (("call", "q"),) * 17 + one * 3, "p": one, "q": (("call", "p"),) * 20})
        self.assertEqual(net_of(wide).lines, 48 + 9 + 343)
        wide = Program(8, tuple("abcdef"), {"main": (("call", "q"),) * 17 + one * 4, "p": one, "q": (("call", "p"),) * 20})
        with self.assertRaises(NotStraight):
            net_of(wide)


class NoStraightOnes(unittest.TestCase):
    def refused(self, found):
        """Look that a program has no net."""
        with self.assertRaises(NotStraight):
            net_of(found)
        with self.assertRaises(NotStraight):
            net_answer(found, (0,) * len(found.variables))

    def test_loops(self):
        loop = ("from", ("==", "a", 0), (("+=", "a", 1),), (), ("==", "a", 1))
        fixed = ("from", TRUE, (), (), TRUE)
        for wrong in [loop, fixed]:
            for body in [(wrong,), (("+=", "b", 1), wrong), (wrong, ("+=", "b", 1)), (("if", TRUE, (wrong,), (), TRUE),),
                         (("if", TRUE, (), (wrong,), TRUE),),
                         (("if", FALSE, (), (("if", FALSE, (wrong,), (), FALSE),), FALSE),)]:
                self.refused(program(*body))
                self.refused(program(("call", "p"), p=body))
                self.refused(program(("uncall", "p"), p=body))
                self.refused(program(("swap", "a", "b"), p=body))
                self.refused(program(p=(), q=body, z=()))
                self.refused(program(("if", FALSE, (("call", "p"),), (), FALSE), p=body))
        self.assertTrue(issubclass(NotStraight, BackError))

    def test_rings(self):
        for one, two in itertools.product(("call", "uncall"), repeat=2):
            for main in [(), ((one, "p"),), ((two, "p"), ("+=", "a", 1)), ((one, "x"),)]:
                self.refused(program(*main, p=((two, "p"),), x=()))
                self.refused(program(*main, p=((two, "q"),), q=((one, "p"),), x=()))
                self.refused(program(*main, p=((two, "q"),), q=((one, "r"),), r=((two, "p"),), x=()))
                self.refused(program(*main, p=(), q=((one, "r"), (two, "p")), r=((two, "x"), (one, "q")), x=()))
                self.refused(program(*main, p=(("if", FALSE, (), ((one, "p"),), FALSE),), x=()))
                self.refused(program(*main, p=((one, "q"),), q=(("if", FALSE, ((two, "p"),), (), FALSE),), x=()))

    def test_calls_that_do_not_lead_round(self):
        found = program(("call", "p"), ("call", "q"), ("uncall", "p"), p=(("call", "r"), ("call", "q")),
                        q=(("uncall", "r"), ("call", "r"), ("call", "r")), r=(("+=", "a", 1),))
        self.assertEqual(net_answer(found, (0, 0, 0)), (1, 0, 0))
        # A procedure may have a name that comes before or behind that of the one that it calls.
        names = "abcdefg"
        for order in (names, names[::-1], "cafegdb"):
            bodies = {one: (("call", two), ("call", two)) for one, two in zip(order, order[1:])}
            bodies[order[-1]] = (("+=", "a", 1),)
            found = Program(8, ("a",), {"main": (("call", order[0]),), **bodies})
            self.assertEqual(net_answer(found, (3,)), (67,))

    def deep(self, last, many=28):
        """Return a program whose calls within calls meet a body more than ten thousand million times."""
        names = "abcdefg"
        bodies = {one: (("call", two), ("uncall", two)) * (many // 2) for one, two in zip(names, names[1:])}
        return Program(8, ("a", "b"), {"main": (("call", "a"),) * many, **bodies, "g": last})

    def test_too_many_gates(self):
        start = time.monotonic()
        for last in [(("+=", "a", 1),), (("swap", "a", "b"),), (("if", TRUE, (), (), TRUE),), (("^=", "a", 0), ("+=", "a", 0)),
                     (("-=", "a", ("*", "b", "b")),), (("+=", "a", 0), ("+=", "a", 128))]:
            self.refused(self.deep(last))
        self.assertLess(time.monotonic() - start, 60)

    def test_calls_of_nothing(self):
        # There are more calls than there is time for, but they need no gates.
        for last in [(), (("if", TRUE, (), (), TRUE),)[:0]]:
            found = self.deep(last)
            self.assertEqual((net_of(found).lines, net_of(found).gates()), (25, []))
            self.assertEqual(net_answer(found, (7, 9)), (7, 9))
        for last in [(("+=", "a", 0),), (("-=", "a", ("*", "b", 0)), ("+=", "b", ("&", 1, 2)))]:
            found = self.deep(last)
            try:
                self.assertEqual(net_answer(found, (7, 9)), (7, 9))
            except NotStraight:
                self.fail("a statement that changes nothing needs no gates here")

    def test_number_of_gates(self):
        swaps = (("swap", "a", "b"),)
        each = len(net_of(program(*swaps, width=8)).gates())
        self.assertEqual(100000 % each, 0)
        many = 100000 // each
        # The statements are put together from calls: 20 * 20 * 20 in a, 20 * 20 in b, 20 in c.
        bodies = {"d": swaps, "c": (("call", "d"),) * 20, "b": (("call", "c"),) * 20, "a": (("call", "b"),) * 20}
        for more in (0, 1):
            rest, main = many + more, []
            for name, size in [("a", 8000), ("b", 400), ("c", 20), ("d", 1)]:
                main += [("call", name)] * (rest // size)
                rest %= size
            found = Program(8, ("a", "b"), {"main": tuple(main), **bodies})
            if more == 0:
                self.assertEqual(len(net_of(found).gates()), 100000)
            else:
                self.refused(found)

    def test_as_many_statements_as_fit_for_sure(self):
        # 166 statements with at most 600 gates each cannot be too many.
        body = (("^=", "a", ("*", "b", "c")), ("+=", "b", ("|", "a", "c"))) * 83
        self.assertLessEqual(len(net_of(program(*body, width=8)).gates()), 100000)
        body = (("if", ("!=", "a", "b"), (), (), ("!=", "a", "b")),) * 166
        self.assertLessEqual(len(net_of(program(*body, width=8)).gates()), 100000)
        self.assertEqual(net_answer(program(*body, width=8), (1, 2, 3)), (1, 2, 3))


class Bits(unittest.TestCase):
    def test_there_and_back(self):
        for width in (1, 2, 3):
            for variables in [("a",), ("a", "b"), ("b", "a", "c")]:
                found = Program(width, variables, {"main": ()})
                for store in stores_of(width, len(variables)):
                    bits = bits_of(found, store)
                    self.assertEqual(bits, bits_told(width, store))
                    self.assertIsInstance(bits, tuple)
                    self.assertEqual(store_of(found, bits), store)

    def test_all_widths(self):
        rng = rng_of(106)
        for width in range(1, 9):
            for many in range(1, 7):
                found = Program(width, tuple("abcdef"[:many]), {"main": ()})
                for store in [some_store(rng, width, range(many)) for _ in range(5)] + [(0,) * many, (2 ** width - 1,) * many]:
                    bits = bits_of(found, store)
                    self.assertEqual(bits, bits_told(width, store))
                    for more in [(), (0,), (1,), (1, 0, 1) * 50]:
                        self.assertEqual(store_of(found, bits + more), store)

    def test_written_out(self):
        found = Program(3, ("a", "b"), {"main": (("from", TRUE, (), (), TRUE),)})
        self.assertEqual(bits_of(found, (1, 6)), (1, 0, 0, 0, 1, 1))
        self.assertEqual(store_of(found, (1, 0, 0, 0, 1, 1)), (1, 6))
        self.assertEqual(store_of(found, (1, 0, 0, 0, 1, 1, 1, 1, 1, 1, 1, 1)), (1, 6))


class Runs(Checks):
    def test_all_stores_of_small_programs(self):
        rng = rng_of(107)
        kinds, ends = set(), 0
        for _ in range(150):
            width, variables, procedures = some_straight(rng)
            found = Program(width, variables, procedures)
            if flags_of(found) < 100:
                more = self.all_stores(found)[1]
                kinds |= more
                ends += len(more)
        self.assertEqual(kinds, {"end", "refused"})
        self.assertGreater(ends, 150)

    def test_back(self):
        rng = rng_of(108)
        refused = 0
        for _ in range(30):
            width, variables, procedures = some_straight(rng, 3)
            found = Program(width, variables, procedures)
            net = net_of(found)
            zeros = (0,) * (net.lines - width * len(variables))
            for store in [some_store(rng, width, variables) for _ in range(8)]:
                end = net.run(bits_told(width, store) + zeros)
                refused += 1 in end[len(end) - len(zeros):]
                self.assertEqual(net.back(end), bits_told(width, store) + zeros)
        self.assertGreater(refused, 10)

    def test_inverse(self):
        rng = rng_of(109)
        for _ in range(30):
            width, variables, procedures = some_straight(rng)
            self.some_stores(inverse_program(Program(width, variables, procedures)), rng, 40)

    def test_uncall_undoes_call(self):
        rng = rng_of(110)
        for _ in range(20):
            width, variables, procedures = some_straight(rng)
            procedures["z"] = procedures["main"]
            procedures["main"] = (("call", "z"), ("uncall", "z"))
            found = Program(width, variables, procedures)
            for store in [some_store(rng, width, variables) for _ in range(10)]:
                try:
                    self.assertEqual(net_answer(found, store), store)
                except Refused:
                    pass

    def test_refused_within_and_behind(self):
        inner = ("if", ("==", "a", 1), (("+=", "a", 1),), (), ("==", "a", 2))
        wrong = ("if", ("==", "a", 1), (), (("+=", "a", 1),), ("==", "a", 1))
        for body in [(inner,), (wrong,), (inner, inner), (wrong, inner), (inner, wrong, ("+=", "a", "b")),
                     (("if", ("<", "b", 4), (inner,), (wrong,), ("<", "b", 4)),),
                     (("if", ("<", "b", 4), (inner, wrong), (), ("<", "a", 4)), ("swap", "a", "b"), wrong),
                     (("if", ("<", "a", 4), (("if", ("<", "b", 4), (wrong,), (), ("<", "b", "a")),), (inner,), TRUE),)]:
            self.assertEqual(self.all_stores(program(*body, variables=("a", "b")))[1], {"end", "refused"})

    def test_depth(self):
        body = (("+=", "a", 1),)
        for _ in range(10):
            body = (("if", ("<", "b", 4), body, (("^=", "a", 3),), ("<", "b", 4)),)
        names = "pqrstuv"
        bodies = {one: body + (("uncall", two),) for one, two in zip(names, names[1:])}
        found = program(("call", "p"), variables=("a", "b"), **bodies, v=body)
        self.all_stores(found)


class Answers(unittest.TestCase):
    def test_example(self):
        found = program_of(EXAMPLE)
        net = net_of(found)
        self.assertEqual(net.lines, 11)
        self.assertEqual(net_answer(found, (1, 2)), (3, 3))
        self.assertEqual(net.run((1, 0, 0, 0, 1, 0) + (0,) * 5), (1, 1, 0, 1, 1, 0) + (0,) * 5)
        self.assertEqual(net.back((1, 1, 0, 1, 1, 0) + (0,) * 5), (1, 0, 0, 0, 1, 0) + (0,) * 5)
        for store in stores_of(3, 2):
            self.assertEqual(net_answer(found, store), answer(found, store, 10)[0])

    def test_as_the_machine(self):
        rng = rng_of(111)
        for _ in range(40):
            width, variables, procedures = some_straight(rng)
            found = Program(width, variables, procedures)
            for store in [some_store(rng, width, variables) for _ in range(6)]:
                try:
                    expected = answer(found, store, 10 ** 5)[0]
                except Refused:
                    with self.assertRaises(Refused) as caught:
                        net_answer(found, store)
                    self.assertEqual((caught.exception.steps, caught.exception.store), (-1, store))
                else:
                    self.assertEqual(net_answer(found, store), expected)

    def test_refused(self):
        found = program(("+=", "a", 1), ("if", TRUE, (), (), ("<", "a", 4)), ("+=", "a", 1))
        for store in stores_of(3, 3):
            if (store[0] + 1) % 8 < 4:
                self.assertEqual(net_answer(found, store), ((store[0] + 2) % 8,) + store[1:])
            else:
                with self.assertRaises(Refused) as caught:
                    net_answer(found, store)
                self.assertEqual((caught.exception.steps, caught.exception.store), (-1, store))
                self.assertIsInstance(caught.exception, BackError)

    def test_wrong_stores(self):
        refusing = ("if", TRUE, (), (), FALSE)
        for found in [program(), program(("+=", "a", "b")), program(refusing)]:
            for wrong in ODD + [(), (0,), (0, 0), (0, 0, 0, 0), [0, 0, 0], (8, 0, 0), (0, -1, 0), (0, 0, 8), (True, 0, 0),
                                (0, False, 0), (0, 0, None), ("0", 0, 0), (0, 0, 1.0), (0, 0, (0,)), (0, 0, 10 ** 30), "000",
                                {0: 0, 1: 0, 2: 0}]:
                with self.assertRaises(BadStore, msg=repr(wrong)):
                    net_answer(found, wrong)
        for wrong in [(2,), (-1,), (True,), (), 0, [0], (0, 0)]:
            with self.assertRaises(BadStore):
                net_answer(Program(1, ("a",), {"main": ()}), wrong)

    def test_not_straight(self):
        for found in [program(("from", TRUE, (), (), TRUE)), program(p=(("call", "p"),)),
                      program(("call", "p"), p=(("call", "q"),) * 90, q=(("call", "r"),) * 90, r=(("+=", "a", 1),) * 10)]:
            with self.assertRaises(NotStraight):
                net_answer(found, (0, 0, 0))

    def test_arguments_stay(self):
        found = program_of(EXAMPLE)
        bodies = {name: found.body(name) for name in found.names}
        net = net_of(found)
        gates = net.gates()
        net.gates().clear()
        net_answer(found, (1, 2))
        self.assertEqual({name: found.body(name) for name in found.names}, bodies)
        self.assertEqual(net.gates(), gates)
        self.assertEqual(net_of(found).gates(), gates)
