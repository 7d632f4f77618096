"""[0.2], [0.3], [0.5], [4.6] to [4.13], [4.16]: runs of programs."""

import itertools
import unittest

from backstair.errors import BadStore, Refused, TooLong
from backstair.invert import inverse_program
from backstair.lang import Program
from backstair.machine import Machine, answer
from tests.oracle import ODD, rng_of
from tests.programs import inverse, some_parts, some_store, trace

EXAMPLE = (("+=", "a", "b"), ("if", ("<", "a", 4), (("+=", "b", 1),), (("-=", "b", 1),), ("<", "a", 4)))
SAME = ("==", "a", "a")
NEVER = ("!=", "a", "a")
ADD = ("+=", "a", 1)
# Goes b times round, and counts in a how often; a must be 0 before and b is 0 afterwards, as long as b is not 0.
COUNT = ("from", ("==", "a", 0), (), (("+=", "a", 1), ("-=", "b", 1)), ("==", "b", 0))
# Calls itself b times, one within the other.
DEEP = (("if", ("<", 0, "b"), (("-=", "b", 1), ("call", "p"), ("+=", "b", 1), ("+=", "a", "b")), (ADD,), ("<", 0, "b")),)


def program(*statements, width=3, variables=("a", "b"), p=(ADD,), q=(("call", "p"),)):
    """Return a program with these statements in main, and the procedures "p" and "q"."""
    return Program(width, variables, {"main": statements, "p": p, "q": q})


def all_stores(width, many):
    """Return all stores of so many variables."""
    return list(itertools.product(range(2 ** width), repeat=many))


def outcome(found, store, most):
    """Return what `answer` returns, or the error's name and what it tells."""
    try:
        return answer(found, store, most)
    except Refused as error:
        return ("Refused", error.steps, error.store)
    except TooLong:
        return ("TooLong",)


class Case(unittest.TestCase):
    def check_run(self, parts, store, most, backwards=False):
        """Compare each configuration of a run with the model, and go back from each one; return how it came out."""
        expected, way = trace(*parts, store, most, backwards)
        machine = Machine(Program(*parts))
        configuration = machine.begin(store)
        if backwards:
            configuration = (machine.final(store)[0], -1, (), store)
        run = [configuration]
        for at, item in enumerate(expected):
            point, heading, frames, numbers = run[-1]
            self.assertEqual((heading, len(frames), numbers), item)
            self.assertIsInstance(frames, tuple)
            if at + 1 < len(expected):
                self.assertIs(machine.stopped(run[-1]), False)
                run.append(machine.step(run[-1]))
                self.assertEqual(machine.back(run[-1]), run[-2])
        self.check_end(machine, run, way)
        self.check_whole(machine, run, way)
        return way

    def check_end(self, machine, run, way):
        """Look at both ends of a run."""
        self.assertEqual(len(set(run)), len(run))
        self.assertIsNone(machine.back(run[0]))
        self.assertEqual(machine.run_back(run[-1], len(run) - 1), (run[0], len(run) - 1))
        self.assertEqual(machine.run_back(run[-1], len(run) + 7), (run[0], len(run) - 1))
        if way == "long":
            self.assertIsNotNone(machine.step(run[-1]))
            return
        self.assertIsNone(machine.step(run[-1]))
        self.assertIs(machine.stopped(run[-1]), way == "end")
        if way == "end" and run[0][1] == 1:
            self.assertEqual(run[-1], machine.final(run[-1][3]))
        if way == "end" and run[0][1] == -1:
            self.assertEqual(run[-1], (machine.begin(())[0], -1, (), run[-1][3]))

    def check_whole(self, machine, run, way):
        """Take several steps at once."""
        for many in {0, 1, 2, len(run) // 2, len(run) - 1}:
            if many < len(run):
                self.assertEqual(machine.run(run[0], many), (run[many], many))
                self.assertEqual(machine.run_back(run[many], many), (run[0], many))
                self.assertEqual(machine.run(run[many], len(run) - 1 - many), (run[-1], len(run) - 1 - many))
        if way != "long":
            self.assertEqual(machine.run(run[0], len(run) + 9), (run[-1], len(run) - 1))

    def check_steps(self, statements, store, end, steps, **more):
        """Look at the number of steps, forth and back."""
        found = program(*statements, **more)
        self.assertEqual(answer(found, store, steps), (end, steps), statements)
        self.assertEqual(answer(inverse_program(found), end, steps), (store, steps), statements)
        machine = Machine(found)
        self.assertEqual(machine.run(machine.begin(store), 1000), (machine.final(end), steps))
        self.assertEqual(machine.run_back(machine.final(end), 1000), (machine.begin(store), steps))


class Steps(Case):
    def test_changes(self):
        for statement, end in [
                (("+=", "a", 1), (6, 3)), (("+=", "a", "b"), (0, 3)), (("-=", "a", 6), (7, 3)), (("^=", "a", "b"), (6, 3)),
                (("+=", "a", ("*", "b", "b")), (6, 3)), (("-=", "a", ("-", 1, "b")), (7, 3)), (("swap", "a", "b"), (3, 5)),
                (("^=", "a", ("-", 0, 1)), (2, 3)), (("+=", "b", ("&", "a", 6)), (5, 7)), (("^=", "b", ("*", "a", 3)), (5, 4)),
                (("+=", "b", ("|", "a", 2)), (5, 2)), (("-=", "b", ("^", "a", 7)), (5, 1)), (("swap", "b", "a"), (3, 5)),
                (("-=", "b", ("+", 7, 7)), (5, 5))]:
            self.check_steps([statement], (5, 3), end, 1)

    def test_all_operators_on_all_numbers(self):
        for width in (1, 2, 3):
            for a, b, c in all_stores(width, 3):
                for operator, worth in [("+", b + c), ("-", b - c), ("*", b * c), ("&", b & c), ("|", b | c), ("^", b ^ c)]:
                    worth %= 2 ** width
                    for word, end in [("+=", a + worth), ("-=", a - worth), ("^=", a ^ worth)]:
                        found = Program(width, ("a", "b", "c"), {"main": ((word, "a", (operator, "b", "c")),)})
                        self.assertEqual(answer(found, (a, b, c), 1), ((end % 2 ** width, b, c), 1))

    def test_great_numbers(self):
        found = Program(8, ("a", "b"), {"main": (("+=", "a", ("*", "b", 255)), ("-=", "b", ("*", "a", "a")))})
        self.assertEqual(answer(found, (200, 100), 2), ((100, 84), 2))

    def test_if_both_ways(self):
        for relation, truth in [("==", lambda x, y: x == y), ("!=", lambda x, y: x != y), ("<", lambda x, y: x < y)]:
            for a, b in all_stores(2, 2):
                condition = (relation, "a", "b")
                found = Program(2, ("a", "b", "c"), {"main": (
                    ("if", condition, (("+=", "c", 1),), (("-=", "c", 1), ("^=", "c", 2)), condition),)})
                end = ((a, b, 1), 3) if truth(a, b) else ((a, b, 1), 4)
                self.assertEqual(answer(found, (a, b, 0), 9), end)

    def test_if_without_statements(self):
        for one, two in [((), ()), ((ADD,), ()), ((), (ADD,)), ((ADD, ADD), (ADD,))]:
            for b in (0, 1):
                steps = 2 + len(one if b == 0 else two)
                self.check_steps([("if", ("==", "b", 0), one, two, ("<", "b", 1))], (0, b), (steps - 2, b), steps)

    def test_from(self):
        self.check_steps([("from", SAME, (), (), SAME)], (1, 2), (1, 2), 2)
        self.check_steps([("from", SAME, (ADD, ADD), (ADD,), SAME)], (1, 2), (3, 2), 4)
        for times in range(8):
            self.check_steps([COUNT], (0, times), (times, 0), 2 + 4 * times)
            both = ("from", ("==", "a", 0), (ADD, ("+=", "b", "a")), (("+=", "b", 1),), ("==", "a", times + 1))
            if times < 7:
                total = sum(range(1, times + 2)) + times
                self.check_steps([both], (0, 0), (times + 1, total % 8), 4 + 5 * times)

    def test_calls(self):
        self.check_steps([("call", "p")], (1, 2), (2, 2), 3)
        self.check_steps([("uncall", "p")], (1, 2), (0, 2), 3)
        self.check_steps([("call", "q")], (1, 2), (2, 2), 5)
        self.check_steps([("uncall", "q")], (1, 2), (0, 2), 5)
        self.check_steps([("uncall", "q")], (1, 2), (2, 2), 5, q=(("uncall", "p"),))
        self.check_steps([("call", "q")], (1, 2), (0, 2), 5, q=(("uncall", "p"),))
        self.check_steps([("call", "p"), ("uncall", "p"), ("uncall", "p")], (1, 2), (0, 2), 9)
        for word in ("call", "uncall"):
            self.check_steps([(word, "p")], (1, 2), (1, 2), 2, p=())
            self.check_steps([(word, "q")] * 3, (1, 2), (1, 2), 12, p=())

    def test_procedures_that_call_themselves(self):
        for b in range(8):
            self.check_steps([("call", "p")], (0, b), ((1 + b * (b - 1) // 2 + b) % 8, b), 5 + 7 * b, p=DEEP)
            self.check_steps([("uncall", "p")], (0, b), (-(1 + b * (b - 1) // 2 + b) % 8, b), 5 + 7 * b, p=DEEP)

    def test_without_statements(self):
        self.check_steps([], (1, 2), (1, 2), 0)
        machine = Machine(program())
        self.assertEqual(machine.begin((1, 2)), machine.final((1, 2)))
        self.assertIs(machine.stopped(machine.begin((1, 2))), True)
        self.assertIsNone(machine.step(machine.begin((1, 2))))
        self.assertIsNone(machine.back(machine.begin((1, 2))))

    def test_example(self):
        self.check_steps(EXAMPLE, (1, 2), (3, 3), 4)
        self.assertEqual(answer(program(*EXAMPLE), (1, 2), 10), ((3, 3), 4))
        self.assertEqual(answer(inverse_program(program(*EXAMPLE)), (3, 3), 10), ((1, 2), 4))


class Configurations(Case):
    def test_beginning_and_end(self):
        machine = Machine(program(*EXAMPLE))
        for store in all_stores(3, 2):
            begin, end = machine.begin(store), machine.final(store)
            self.assertEqual((begin[1:], end[1:]), ((1, (), store), (1, (), store)))
            self.assertNotEqual(begin[0], end[0])
            self.assertIsNone(machine.back(begin))
            self.assertIsNone(machine.step(end))
            self.assertIs(machine.stopped(end), True)
            self.assertIs(machine.stopped(begin), False)
            self.assertIs(machine.stopped((begin[0], -1, (), store)), True)
            self.assertIs(machine.stopped((end[0], -1, (), store)), False)
            self.assertIsNone(machine.step((begin[0], -1, (), store)))
            self.assertIsNone(machine.back((end[0], -1, (), store)))

    def test_headings_and_frames(self):
        found = program(("call", "q"), ("uncall", "q"), q=(("uncall", "p"), ("call", "p")))
        machine = Machine(found)
        configuration = machine.begin((0, 0))
        shown = []
        while configuration is not None:
            shown.append((configuration[1], len(configuration[2]), configuration[3][0]))
            configuration = machine.step(configuration)
        self.assertEqual(shown, [
            (1, 0, 0), (1, 1, 0), (-1, 2, 0), (-1, 2, 7), (1, 1, 7), (1, 2, 7), (1, 2, 0), (1, 1, 0), (1, 0, 0),
            (-1, 1, 0), (-1, 2, 0), (-1, 2, 7), (-1, 1, 7), (1, 2, 7), (1, 2, 0), (-1, 1, 0), (1, 0, 0)])

    def test_the_same_procedure_at_several_places(self):
        machine = Machine(program(("call", "p"), ("call", "p"), ("uncall", "p")))
        one = machine.run(machine.begin((0, 0)), 2)[0]
        two = machine.run(machine.begin((7, 0)), 5)[0]
        self.assertEqual((one[0], one[1], one[3]), (two[0], two[1], (1, 0)))
        self.assertNotEqual(one[2], two[2])
        self.assertEqual(machine.run_back(one, 9), (machine.begin((0, 0)), 2))
        self.assertEqual(machine.run_back(two, 9), (machine.begin((7, 0)), 5))

    def test_small_programs_from_all_stores(self):
        rng = rng_of(61)
        ways = []
        for _ in range(120):
            parts = some_parts(rng)
            if parts[0] <= 2 and len(parts[1]) <= 2:
                for store in all_stores(parts[0], len(parts[1])):
                    ways.append(self.check_run(parts, store, 60))
                    ways.append(self.check_run(parts, store, 60, backwards=True))
        for way in ("end", "refused", "long"):
            self.assertGreater(ways.count(way), 20)

    def test_some_programs(self):
        rng = rng_of(62)
        for _ in range(400):
            parts = some_parts(rng, 6)
            self.check_run(parts, some_store(rng, *parts[:2]), 100, rng.randrange(2) == 1)

    def test_calls_within_calls(self):
        for main in [(("call", "q"),), (("uncall", "q"),), (("uncall", "q"), ("call", "p"), ("call", "q"))]:
            for q in [(("call", "p"), ("uncall", "p")), (("uncall", "p"), ADD, ("uncall", "p"))]:
                for store in all_stores(2, 2):
                    self.assertEqual(self.check_run((2, ("a", "b"), {"main": main, "p": DEEP, "q": q}), store, 300), "end")

    def test_every_kind_of_refused_run(self):
        for main in [(ADD, ("if", SAME, (ADD,), (), NEVER)), (ADD, ("if", NEVER, (), (ADD,), SAME)),
                     (ADD, ("from", NEVER, (), (), SAME)), (ADD, ("from", SAME, (), (ADD,), NEVER)),
                     (ADD, ("call", "p")), (ADD, ("uncall", "p")), (("call", "q"),), (("uncall", "q"),)]:
            for p in [(ADD, ("if", SAME, (), (), NEVER), ADD), (ADD, ("if", NEVER, (), (), SAME), ADD),
                      (("swap", "a", "b"), ("from", NEVER, (), (), SAME), ADD),
                      (ADD, ("from", SAME, (), (), NEVER), ("swap", "a", "b"))]:
                parts = (2, ("a", "b"), {"main": main, "p": p, "q": (("uncall", "p"),)})
                for store in all_stores(2, 2):
                    self.assertEqual(self.check_run(parts, store, 50), "refused")


class Answers(Case):
    def test_all_numbers_of_steps(self):
        rng = rng_of(63)
        ways = []
        for _ in range(400):
            parts = some_parts(rng)
            store = some_store(rng, *parts[:2])
            expected, way = trace(*parts, store, 60)
            ways.append(way)
            found, steps = Program(*parts), len(expected) - 1
            for most in {0, 1, steps - 2, steps - 1, steps, steps + 1, steps + 100} & set(range(200)):
                if most < steps or way == "long" and most == steps:
                    self.assertEqual(outcome(found, store, most), ("TooLong",))
                elif way == "end":
                    self.assertEqual(outcome(found, store, most), (expected[-1][2], steps))
                elif way == "refused":
                    self.assertEqual(outcome(found, store, most), ("Refused", steps, expected[-1][2]))
        for way in ("end", "refused", "long"):
            self.assertGreater(ways.count(way), 5)

    def test_refused(self):
        for main, p, steps, store in [
                ([("from", NEVER, (), (), SAME)], (), 0, (1, 2)),
                ([("if", SAME, (), (), NEVER)], (), 1, (1, 2)),
                ([("if", SAME, (ADD, ADD), (), NEVER)], (), 3, (3, 2)),
                ([("if", NEVER, (), (ADD,), SAME)], (), 2, (2, 2)),
                ([ADD, ("from", SAME, (ADD,), (ADD,), NEVER)], (), 5, (4, 2)),
                ([ADD, ("call", "p")], (ADD, ("if", SAME, (), (), NEVER)), 4, (3, 2)),
                ([ADD, ("uncall", "p")], (("if", NEVER, (), (), SAME), ADD), 4, (1, 2)),
                ([ADD, ("uncall", "p")], (("from", SAME, (), (), NEVER), ADD), 3, (1, 2)),
                ([("if", SAME, (), (), ("==", "a", 2))], (), 1, (1, 2))]:
            found = program(*main, p=p)
            for most in (steps, steps + 1, 1000):
                with self.assertRaises(Refused) as caught:
                    answer(found, (1, 2), most)
                self.assertEqual((caught.exception.steps, caught.exception.store), (steps, store))
            for most in range(steps):
                with self.assertRaises(TooLong):
                    answer(found, (1, 2), most)
            machine = Machine(found)
            there, taken = machine.run(machine.begin((1, 2)), 1000)
            self.assertEqual((taken, there[3]), (steps, store))
            self.assertIsNone(machine.step(there))
            self.assertIs(machine.stopped(there), False)
            self.assertEqual(machine.run_back(there, steps), (machine.begin((1, 2)), steps))

    def test_an_end_just_in_time(self):
        self.assertEqual(answer(program(), (0, 0), 0), ((0, 0), 0))
        self.assertEqual(answer(program(ADD), (0, 0), 1), ((1, 0), 1))
        with self.assertRaises(TooLong):
            answer(program(ADD), (0, 0), 0)

    def test_endless(self):
        for found in [program(("call", "p"), p=(("call", "p"),)), program(("uncall", "p"), p=(("uncall", "p"),))]:
            for most in (0, 1, 1000):
                with self.assertRaises(TooLong):
                    answer(found, (0, 0), most)

    def test_wrong_stores(self):
        wrong = [(), (1,), (1, 2, 3), [1, 2], [], (8, 0), (0, 8), (-1, 0), (0, -1), (True, 0), (0, True), (False, 0),
                 (0, False), (None, 0), (0, None), ("1", 0), (0, 10 ** 30), ((1, 2),), {0: 1, 1: 2}, "12", None, 0]
        refused = program(("from", NEVER, (), (), SAME))
        for found in [program(*EXAMPLE), program(), refused, program(("call", "p"), p=(("call", "p"),))]:
            for store in wrong + [odd for odd in ODD if odd != (0, 0)]:
                for most in (0, 10):
                    with self.assertRaises(BadStore, msg=repr(store)):
                        answer(found, store, most)
        for width in range(1, 9):
            found = program(width=width)
            most = 2 ** width - 1
            self.assertEqual(answer(found, (most, 0), 5), ((most, 0), 0))
            for store in [(most + 1, 0), (0, most + 1)]:
                with self.assertRaises(BadStore):
                    answer(found, store, 5)


class ThereAndBack(Case):
    def test_all_stores(self):
        rng = rng_of(64)
        ends = 0
        for _ in range(200):
            parts = some_parts(rng)
            if parts[0] * len(parts[1]) > 4:
                continue
            found = Program(*parts)
            other = inverse_program(found)
            stores = all_stores(parts[0], len(parts[1]))
            forth = {store: outcome(found, store, 100) for store in stores}
            back = {store: outcome(other, store, 100) for store in stores}
            pairs = {(store, way) for store, way in forth.items() if len(way) == 2}
            self.assertEqual({(way[0], (store, way[1])) for store, way in pairs},
                             {(store, way) for store, way in back.items() if len(way) == 2})
            self.assertEqual(len({way[0] for _, way in pairs}), len(pairs))
            ends += len(pairs)
        self.assertGreater(ends, 300)

    def test_uncall_undoes_call(self):
        rng = rng_of(65)
        ends = 0
        for _ in range(150):
            width, variables, procedures = some_parts(rng)
            if width * len(variables) > 4 or "p" not in procedures:
                continue
            body = procedures["p"]
            both = {}
            for name, main in [("there", body), ("back", inverse(body)), ("call", (("call", "p"),)),
                               ("uncall", (("uncall", "p"),)), ("call uncall", (("call", "p"), ("uncall", "p"))),
                               ("uncall call", (("uncall", "p"), ("call", "p")))]:
                both[name] = Program(width, variables, {**procedures, "main": main})
            for store in all_stores(width, len(variables)):
                for one, two, three in [("there", "call", "call uncall"), ("back", "uncall", "uncall call")]:
                    way = outcome(both[one], store, 100)
                    if len(way) != 2:
                        continue
                    ends += 1
                    end, steps = way
                    self.assertEqual(answer(both[two], store, 102), (end, steps + 2))
                    self.assertEqual(answer(both[three], store, 204), (store, 2 * steps + 4))
        self.assertGreater(ends, 100)


class Greatest(Case):
    def test_200_statements(self):
        rng = rng_of(66)
        body = ()
        for _ in range(10):
            plain = tuple(("+=", "b", rng.randrange(256)) for _ in range(8))
            more = tuple(("^=", "c", ("*", "b", rng.randrange(256))) for _ in range(10))
            body = (("if", ("<", "a", 128), plain + body, more, ("<", "a", 128)),)
        body += (("+=", "a", 255),) * 10
        parts = (8, ("a", "b", "c", "d", "e", "f"), {"main": body})
        for a in (0, 127, 128, 255):
            self.assertEqual(self.check_run(parts, (a, 1, 2, 3, 4, 5), 1000), "end")

    def test_long_runs(self):
        found = program(("from", ("==", "a", 0), (("+=", "b", 1),), (("+=", "a", 1),), ("==", "a", 255)), width=8)
        machine = Machine(found)
        steps = 3 + 4 * 255
        self.assertEqual(machine.run(machine.begin((0, 0)), 10 ** 6), (machine.final((255, 0)), steps))
        self.assertEqual(machine.run_back(machine.final((255, 0)), 10 ** 6), (machine.begin((0, 0)), steps))

    def test_many_frames(self):
        for p, frames in [((ADD, ("uncall", "p")), 33333), ((("uncall", "p"), ADD), 33334), ((("call", "p"),), 50000)]:
            machine = Machine(program(("call", "p"), p=p, width=8))
            there, taken = machine.run(machine.begin((0, 0)), 50000)
            self.assertEqual((taken, len(there[2])), (50000, frames))
            self.assertEqual(machine.run_back(there, 10 ** 6), (machine.begin((0, 0)), 50000))
