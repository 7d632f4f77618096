"""[0.5], [4.2] to [4.4]: what programs are made of."""

import itertools
import unittest

from backstair.errors import BadProgram
from backstair.lang import Program
from tests.oracle import ODD

WORDS = ["add", "call", "do", "else", "end", "fi", "from", "if", "loop", "proc", "swap", "then", "uncall", "until",
         "vars", "width"]
NO_NAMES = WORDS + ["", "A", "aB", "Main", "abcdefghi", "a1", "1a", "a_b", "a b", " a", "a ", "a-b", "a\n", "\u00e4",
                    "\u03b1", "a.", "0", "+="]
NO_STRINGS = [odd for odd in ODD if not isinstance(odd, str)]
SAME = ("==", "a", "a")
CHANGES = ["+=", "-=", "^="]
OPERATORS = ["+", "-", "*", "&", "|", "^"]
RELATIONS = ["==", "!=", "<"]
NO_OPERATORS = ["", "/", "//", "**", "%", "<<", "&&", "and", "==", "<", "+=", "++", " +", "mod", None, 0, ("+",), ["+"]]
NO_RELATIONS = ["", "=", "<=", ">", ">=", "<>", "!", "is", "+", "&", "== ", None, 0, ("==",), ["=="]]


def program(*statements, width=3, variables=("a", "b", "c"), more=None):
    """Return a program with these statements in main, and the procedures "p" and "q"."""
    procedures = {"p": (), "q": (("+=", "a", 1),), "main": tuple(statements)}
    procedures.update(more or {})
    return Program(width, variables, procedures)


def nested(depth, innermost=()):
    """Return a body whose innermost body has this depth."""
    body = innermost
    for at in range(depth):
        word = "if" if at % 2 == 0 else "from"
        body = ((word, SAME, body, (), SAME),) if at % 3 == 0 else ((word, SAME, (), body, SAME),)
    return body


class Case(unittest.TestCase):
    def right(self, *statements, **more):
        self.assertEqual(program(*statements, **more).body("main"), statements)

    def wrong(self, *statements, **more):
        try:
            program(*statements, **more)
        except BadProgram:
            return
        self.fail(f"allowed: {statements!r} {more!r}")


class Widths(Case):
    def test_all_widths(self):
        for width in range(1, 9):
            self.assertEqual(program(width=width).width, width)

    def test_others(self):
        for width in [0, 9, -1, 10, 64, 10 ** 30, True, False, None, "3", (3,), [3]]:
            self.wrong(width=width)
            with self.assertRaises(BadProgram):
                Program(width, ("a",), {"main": ()})


class Variables(Case):
    def test_numbers_of_them(self):
        letters = "abcdefg"
        for many in range(1, 7):
            names = tuple(letters[:many])
            self.assertEqual(Program(1, names, {"main": ()}).variables, names)
        for many in (0, 7):
            with self.assertRaises(BadProgram):
                Program(1, tuple(letters[:many]), {"main": ()})
        with self.assertRaises(BadProgram):
            Program(1, ("a",) * 10 ** 5, {"main": ()})

    def test_no_tuples(self):
        for variables in [["a", "b"], "ab", "a", {"a": 1}, None, 1, True, [], {"a"}]:
            self.wrong(variables=variables)

    def test_a_name_twice(self):
        for names in [("a", "a"), ("a", "b", "a"), ("b", "a", "c", "d", "e", "e")]:
            self.wrong(variables=names)

    def test_names(self):
        for name in ["a", "z", "abcdefgh", "zzzzzzzz", "main", "p", "ad", "adds", "ends", "thens", "var", "proca", "or"]:
            self.assertEqual(Program(1, (name,), {"main": ()}).variables, (name,))

    def test_no_names(self):
        for name in NO_NAMES + NO_STRINGS:
            for names in [(name,), (name, "a"), ("a", name), ("a", "b", "c", "d", "e", name)]:
                with self.assertRaises(BadProgram, msg=repr(name)):
                    Program(1, names, {"main": ()})

    def test_the_name_of_a_procedure(self):
        self.right(("call", "p"), ("+=", "p", 1), ("swap", "p", "main"), variables=("p", "q", "main"),
                   more={"q": ()})


class Procedures(Case):
    def test_numbers_of_them(self):
        for many in range(1, 9):
            names = ["main"] + ["p" + letter for letter in "abcdefgh"[:many - 1]]
            found = Program(2, ("a",), {name: () for name in reversed(names)})
            self.assertEqual(found.names, tuple(names))
        nine = ["main"] + ["p" + letter for letter in "abcdefgh"]
        with self.assertRaises(BadProgram):
            Program(2, ("a",), {name: () for name in nine})

    def test_without_main(self):
        for procedures in [{}, {"p": ()}, {"mains": ()}, {"p": (("call", "p"),)}]:
            with self.assertRaises(BadProgram):
                Program(2, ("a",), procedures)

    def test_names(self):
        for name in ["a", "zzzzzzzz", "x", "adds", "ma"]:
            self.assertEqual(Program(2, ("a",), {"main": (), name: ()}).names, tuple(sorted(["main", name])))
        for name in NO_NAMES + [odd for odd in NO_STRINGS if not isinstance(odd, (list, dict))]:
            with self.assertRaises(BadProgram, msg=repr(name)):
                Program(2, ("a",), {"main": (), name: ()})

    def test_no_dicts(self):
        for procedures in [None, (), (("main", ()),), [("main", ())], "main", 1, True, {"main"}]:
            with self.assertRaises(BadProgram):
                Program(2, ("a",), procedures)

    def test_bodies_that_are_no_tuples(self):
        for body in [[], [("+=", "a", 1)], {}, None, 0, True, "", "call p", {("call", "p"): 1}, object()]:
            for name in ("main", "p", "q", "x"):
                self.wrong(more={name: body})
            for word in ("if", "from"):
                self.wrong((word, SAME, body, (), SAME))
                self.wrong((word, SAME, (), body, SAME))

    def test_a_wrong_statement_in_any_procedure(self):
        for name in ("main", "p", "x"):
            self.wrong(more={name: (("+=", "a", 8),)})
            self.wrong(more={name: (("+=", "a", 7), ("+=", "d", 7))})

    def test_names_in_ascending_order(self):
        names = ["main", "z", "a", "zz", "az", "b", "mai", "mainx"]
        for order in itertools.islice(itertools.permutations(names), 0, 40320, 997):
            self.assertEqual(Program(1, ("a",), {name: () for name in order}).names, tuple(sorted(names)))


class Attributes(Case):
    def test_bodies(self):
        found = program(("call", "q"), ("+=", "a", ("*", "b", 7)))
        self.assertEqual(found.names, ("main", "p", "q"))
        self.assertEqual(found.body("main"), (("call", "q"), ("+=", "a", ("*", "b", 7))))
        self.assertEqual((found.body("p"), found.body("q")), ((), (("+=", "a", 1),)))

    def test_no_such_procedure(self):
        found = program()
        for name in ["r", "a", "", "Main", "main ", "mai", "P"] + ODD + NO_NAMES:
            with self.assertRaises(BadProgram):
                found.body(name)

    def test_what_was_passed_may_be_changed(self):
        procedures = {"main": (("+=", "a", 1),), "p": ()}
        found = Program(2, ("a", "b"), procedures)
        procedures["main"] = (("-=", "a", 1),)
        procedures["x"] = ()
        del procedures["p"]
        self.assertEqual(found.names, ("main", "p"))
        self.assertEqual((found.body("main"), found.body("p")), ((("+=", "a", 1),), ()))
        with self.assertRaises(BadProgram):
            found.body("x")
        procedures.clear()
        self.assertEqual(found.body("main"), (("+=", "a", 1),))

    def test_what_was_passed_is_not_changed(self):
        procedures = {"z": (), "main": (("call", "z"),), "a": ()}
        Program(2, ("a", "b"), procedures)
        self.assertEqual(list(procedures.items()), [("z", ()), ("main", (("call", "z"),)), ("a", ())])


class Numbers(Case):
    """How many statements there may be, and how deep they may stand."""

    def test_200_statements(self):
        one = ("+=", "a", 1)
        self.assertEqual(len(program(*[one] * 199).body("main")), 199)
        self.wrong(*[one] * 200)
        self.wrong(*[one] * 10 ** 5)
        for many in (200, 201):
            for parts in [(many,), (many - 1, 1), (100, many - 100), (0, many), (1, 2, many - 3)]:
                procedures = {name: (one,) * part for name, part in zip(["main", "x", "y"], parts)}
                if many == 200:
                    Program(2, ("a",), procedures)
                else:
                    with self.assertRaises(BadProgram):
                        Program(2, ("a",), procedures)

    def test_those_within_others_are_counted(self):
        one = ("^=", "a", 1)
        for word in ("if", "from"):
            for first, second in [(199, 0), (0, 199), (100, 99)]:
                statement = (word, SAME, (one,) * first, (one,) * second, SAME)
                self.assertEqual(Program(2, ("a",), {"main": (statement,)}).body("main"), (statement,))
                for wrong in [{"main": (statement, one)}, {"main": (statement,), "p": (one,)},
                              {"main": ((word, SAME, (one,) * (first + 1), (one,) * second, SAME),)},
                              {"main": ((word, SAME, (one,) * first, (one,) * (second + 1), SAME),)}]:
                    with self.assertRaises(BadProgram):
                        Program(2, ("a",), wrong)

    def test_parts_that_are_shared_are_counted_each_time(self):
        body = (("+=", "a", 1),)
        for _ in range(6):
            body = (("if", SAME, body, body, SAME),)
        self.assertEqual(program(*body).body("main"), body)
        self.wrong(("if", SAME, body, body, SAME))
        wide = (("+=", "a", 1),) * 1000
        for _ in range(9):
            wide = (("if", SAME, wide, wide, SAME),) * 1000
        self.wrong(*wide)

    def test_depth(self):
        for depth in range(11):
            body = nested(depth, (("+=", "a", 1),))
            self.assertEqual(program(*body).body("main"), body)
            self.assertEqual(program(more={"x": body}).body("x"), body)
        for depth in (11, 12, 50, 20000):
            for innermost in [(), (("+=", "a", 1),)]:
                self.wrong(*nested(depth, innermost))
                self.wrong(more={"x": nested(depth, innermost)})

    def test_depth_in_the_second_body_alone(self):
        for word in ("if", "from"):
            for many, right in [(9, True), (10, False)]:
                body = nested(many)
                for statement in [(word, SAME, body, (), SAME), (word, SAME, (), body, SAME),
                                  (word, SAME, body, body, SAME)]:
                    (self.right if right else self.wrong)(statement)


class Changes(Case):
    def test_atoms(self):
        for word in CHANGES:
            for atom in [0, 1, 6, 7, "b", "c"]:
                self.right((word, "a", atom))
            for atom in [8, -1, 10 ** 30, True, False, None, "", "a", "d", "0", "1", "B", "p", "main", (), ("b",), [],
                         ["b"], {}, b"b", 1.0, object(), ("b", "c")]:
                self.wrong((word, "a", atom))

    def test_numbers_of_each_width(self):
        for width in range(1, 9):
            most = 2 ** width - 1
            self.right(("+=", "a", most), ("^=", "a", ("+", 0, most)), ("swap", "a", "b"), width=width)
            self.wrong(("+=", "a", most + 1), width=width)
            self.wrong(("+=", "a", ("+", 0, most + 1)), width=width)
            self.wrong(("+=", "a", ("+", most + 1, 0)), width=width)
            self.wrong(("if", ("<", "a", most + 1), (), (), SAME), width=width)

    def test_variables(self):
        for word in CHANGES:
            for name in ["d", "", "A", "ab", "p", "main", 0, 1, True, None, ("a",), ["a"], b"a", ("+", "a", "b")]:
                self.wrong((word, name, 1))

    def test_expressions(self):
        for word in CHANGES:
            for operator in OPERATORS:
                for one, two in itertools.product([0, 7, "b", "c"], repeat=2):
                    self.right((word, "a", (operator, one, two)))
                    self.right((word, "b", (operator, 1, "a")))
                for wrong in [8, -1, True, False, "a", "d", "", None, (), ("b",), ("+", "b", 1), ["b"], {}, b"b", 1.0]:
                    self.wrong((word, "a", (operator, wrong, "b")))
                    self.wrong((word, "a", (operator, 0, wrong)))
                for wrong in [(operator,), (operator, "b"), (operator, "b", 1, 1), [operator, "b", 1], ("b", operator, 1),
                              ("b", 1, operator)]:
                    self.wrong((word, "a", wrong))
            for operator in NO_OPERATORS:
                self.wrong((word, "a", (operator, "b", 1)))

    def test_forms(self):
        for word in CHANGES:
            for wrong in [(word,), (word, "a"), (word, "a", 1, 1), [word, "a", 1], (word, "a", "b", "c"), (word, 1, "a"),
                          ("a", word, 1), word, (word, ("a", 1))]:
                self.wrong(wrong)


class Swaps(Case):
    def test_variables(self):
        for one, two in itertools.permutations("abc", 2):
            self.right(("swap", one, two))
        for one in "abc":
            self.wrong(("swap", one, one))
            for wrong in [0, 1, True, "d", "", "p", None, (), ("b",), ["b"], ("+", "b", 1), b"b"]:
                self.wrong(("swap", one, wrong))
                self.wrong(("swap", wrong, one))

    def test_forms(self):
        for wrong in [("swap",), ("swap", "a"), ("swap", "a", "b", "c"), ["swap", "a", "b"], ("Swap", "a", "b"),
                      ("swap", ("a", "b")), "swap"]:
            self.wrong(wrong)


class Calls(Case):
    def test_procedures(self):
        for word in ("call", "uncall"):
            self.right((word, "p"))
            self.right((word, "q"))
            for name in ["main", "r", "a", "", "P", "call", None, 0, True, (), ("p",), ["p"], {}, b"p"]:
                self.wrong((word, name))
                self.wrong(more={"p": ((word, name),)})
            for wrong in [(word,), (word, "p", "q"), [word, "p"], (word, "p", 1), ("p", word), word, (word + "s", "p")]:
                self.wrong(wrong)

    def test_procedures_that_call_each_other_or_themselves(self):
        program(more={"p": (("call", "q"), ("uncall", "p")), "q": (("call", "p"), ("call", "q"))})


class Branches(Case):
    def test_conditions(self):
        for word in ("if", "from"):
            for relation in RELATIONS:
                for one, two in itertools.product([0, 7, "a", "b"], repeat=2):
                    condition = (relation, one, two)
                    self.right((word, condition, (), (), SAME))
                    self.right((word, SAME, (), (), condition))

    def test_no_conditions(self):
        atoms = [8, -1, True, False, "d", "", None, (), ("b",), ("+", "a", 1), ("==", "a", 1), ["a"], {}, b"a", 1.0]
        conditions = [0, 1, True, "a", "", None, (), [], ["==", "a", "a"], ("==",), ("==", "a"), ("==", "a", "a", "a"),
                      ("a", "==", "a"), ("a", "a"), object()]
        conditions += [(relation, "a", 1) for relation in NO_RELATIONS]
        conditions += [(relation, "a", atom) for relation in RELATIONS for atom in atoms]
        conditions += [(relation, atom, "a") for relation in RELATIONS for atom in atoms]
        for word in ("if", "from"):
            for wrong in conditions:
                self.wrong((word, wrong, (), (), SAME))
                self.wrong((word, SAME, (), (), wrong))

    def test_forms(self):
        for word in ("if", "from"):
            good = (word, SAME, (("+=", "a", 1),), (("call", "p"),), SAME)
            self.right(good)
            for many in range(5):
                self.wrong(good[:many])
                self.wrong(list(good[:many]))
            for wrong in [list(good), good + (SAME,), good + ((),), (word, SAME, (), (), (), SAME), word,
                          (word, (), SAME, (), SAME), (word, SAME, (), SAME, ())]:
                self.wrong(wrong)

    def test_statements_within(self):
        for word in ("if", "from"):
            for wrong in [("+=", "a", 8), ("+=", "a", "a"), ["+=", "a", 1], ("swap", "a", "a"), ("call", "main"),
                          ("call", "r"), (), None, 1, "call p", ("if", SAME, (), (), 1)]:
                for body in [(wrong,), (("+=", "a", 1), wrong), (("if", SAME, (), (wrong,), SAME),)]:
                    self.wrong((word, SAME, body, (), SAME))
                    self.wrong((word, SAME, (), body, SAME))


class Unknown(Case):
    def test_words(self):
        for word in ["", "add", "=", "*=", "|=", "&=", "+", "IF", "while", "do", "end", "proc", "then", "a", "p", None, 0,
                     1, True, ("+=",), ["+="], {}, b"+=", "++=", " +="]:
            for rest in [(), ("a",), ("p",), ("a", 1), ("a", "b"), (SAME, (), (), SAME), (1, 2, 3), (1, 2, 3, 4, 5)]:
                self.wrong((word,) + rest)

    def test_no_statements(self):
        for wrong in ODD + [((),), (("+=", "a", 1),), [("+=", "a", 1)]]:
            self.wrong(wrong)
            self.wrong(("+=", "a", 1), wrong)
            self.wrong(wrong, ("+=", "a", 1))
