"""[0.5], [4.5]: inverses of bodies and programs."""

import unittest

from backstair.errors import BadProgram
from backstair.invert import inverse_of, inverse_program
from backstair.lang import Program
from tests.oracle import rng_of
from tests.programs import inverse, some_parts

C = ("==", "a", 1)
D = ("<", "b", "a")
ADD = ("+=", "a", ("*", "b", 3))
TAKE = ("-=", "a", ("*", "b", 3))
PAIRS = [(ADD, TAKE), (("+=", "a", 1), ("-=", "a", 1)), (("^=", "a", "b"), ("^=", "a", "b")),
         (("swap", "a", "b"), ("swap", "a", "b")), (("call", "p"), ("uncall", "p")),
         (("if", C, (), (), D), ("if", D, (), (), C)), (("from", C, (), (), D), ("from", D, (), (), C)),
         (("if", C, (ADD,), (), C), ("if", C, (TAKE,), (), C)), (("if", C, (), (ADD,), D), ("if", D, (), (TAKE,), C)),
         (("from", C, (ADD, ("call", "p")), (("swap", "a", "b"), TAKE), D),
          ("from", D, (("uncall", "p"), TAKE), (ADD, ("swap", "a", "b")), C))]


class Bodies(unittest.TestCase):
    def test_each_statement(self):
        for one, two in PAIRS:
            self.assertEqual(inverse_of((one,)), (two,))
            self.assertEqual(inverse_of((two,)), (one,))

    def test_reverse_order(self):
        for one, other in PAIRS:
            for two, another in PAIRS:
                self.assertEqual(inverse_of((one, two)), (another, other))
                self.assertEqual(inverse_of((one, two, one)), (other, another, other))

    def test_empty(self):
        self.assertEqual(inverse_of(()), ())

    def test_bodies_within_bodies(self):
        inner = ("if", C, (ADD, ("call", "p")), (("from", D, (), (("^=", "a", 1), ("uncall", "q")), C),), D)
        outer = ("from", C, (inner, ("swap", "a", "b")), (inner,), D)
        other = ("if", D, (("uncall", "p"), TAKE), (("from", C, (), (("call", "q"), ("^=", "a", 1)), D),), C)
        self.assertEqual(inverse_of((outer,)), (("from", D, (("swap", "a", "b"), other), (other,), C),))

    def test_as_deep_as_it_may_be(self):
        body, other = (ADD,), (TAKE,)
        for _ in range(10):
            body, other = (("if", C, body, (ADD, ("call", "p")), D),), (("if", D, other, (("uncall", "p"), TAKE), C),)
        self.assertEqual(inverse_of(body), other)

    def test_twice(self):
        rng = rng_of(51)
        for _ in range(200):
            for body in some_parts(rng)[2].values():
                self.assertEqual(inverse_of(body), inverse(body))
                self.assertEqual(inverse_of(inverse_of(body)), body)
                self.assertIsInstance(inverse_of(body), tuple)


class Programs(unittest.TestCase):
    def test_main_alone(self):
        rng = rng_of(52)
        for _ in range(200):
            width, variables, procedures = some_parts(rng)
            program = Program(width, variables, procedures)
            found = inverse_program(program)
            self.assertIsInstance(found, Program)
            self.assertEqual((found.width, found.variables, found.names), (width, variables, program.names))
            for name in program.names:
                body = procedures[name]
                self.assertEqual(found.body(name), inverse(body) if name == "main" else body)
                self.assertEqual(inverse_program(found).body(name), body)
                self.assertEqual(program.body(name), body)

    def test_what_was_passed_stays(self):
        program = Program(3, ("a", "b"), {"main": (ADD, ("call", "p")), "p": (ADD,)})
        found = inverse_program(program)
        self.assertEqual(found.body("main"), (("uncall", "p"), TAKE))
        self.assertEqual(found.body("p"), (ADD,))
        self.assertEqual((program.body("main"), program.body("p")), ((ADD, ("call", "p")), (ADD,)))
        self.assertEqual((program.width, program.variables, program.names), (3, ("a", "b"), ("main", "p")))
        with self.assertRaises(BadProgram):
            found.body("q")

    def test_200_statements(self):
        body = tuple(("+=", "a", at % 8) for at in range(200))
        found = inverse_program(Program(3, ("a",), {"main": body}))
        self.assertEqual(found.body("main"), tuple(("-=", "a", at % 8) for at in reversed(range(200))))
