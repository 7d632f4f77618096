"""[0.1] to [0.6]: what the document promises over the whole program."""

import copy
import inspect
import itertools
import unittest

from backstair import (blocks, clean, errors, film, flystair, forget, history, inverse, invert, machine, nets, parse, parts,
                       partstair, plain, straight, tables, tape, written)
from backstair.errors import BackError
from backstair.lang import Program
from backstair.several import Several
from tests.oracle import rng_of, some_rows, some_several_rows, some_tape

COUNTER = [(1, 1, 1), (0, -1, 0), None, (1, 1, 1)]
TURNER = [("write", 0, (1,), (2,), 1), ("write", 0, (2,), (1,), 1), ("move", 1, (1,), 0), ("write", 0, (0,), (0,), 2)]
EXAMPLE = "width 3\nvars a b\nproc main\na += b\nif a < 4 then\nb += 1\nelse\nb -= 1\nfi a < 4\nend\n"
BRANCHED = {"main": (("if", ("<", "a", 4), (("+=", "b", 1), ("call", "p")), (("uncall", "p"),), ("<", "a", 4)),),
            "p": (("swap", "a", "b"), ("swap", "b", "a"))}


def counter():
    """Return a machine that counts."""
    return tape.Tape(2, 2, list(COUNTER))


def turner():
    """Return a machine that goes both ways."""
    return Several(1, 3, 3, list(TURNER))


def stopping():
    """Return pairs of a machine that goes both ways and can stop, and some of its configurations."""
    rng = rng_of(181)
    found = []
    for tapes, marks, states in [(1, 2, 2), (1, 3, 4), (2, 2, 3), (4, 3, 2)]:
        found.append(Several(tapes, marks, states, some_several_rows(rng, tapes, marks, states, 15, True)))
    ordinary = [counter(), tape.Tape(3, 2, some_rows(rng, 3, 2)), tape.Tape(2, 3, some_rows(rng, 2, 3))]
    found += [history.History(upper).lower for upper in ordinary] + [clean.clean(upper) for upper in ordinary]
    found += [turner(), inverse.inverse(turner()), plain.plain(tape.Tape(2, 1, [None, (0, 1, 0)]))]
    pairs = []
    for several in found:
        configurations = [(rng.randrange(several.states), tuple(some_tape(rng, several.marks, 2) for _ in range(several.tapes)))
                          for _ in range(60)]
        pairs.append((several, configurations + runs_from(several, 20)))
    for program in [parse.program_of(EXAMPLE), Program(3, ("a", "b"), BRANCHED)]:
        runner = machine.Machine(program)
        configurations = []
        for store in itertools.product(range(8), repeat=2):
            for configuration in (runner.begin(store), runner.final(store)):
                while configuration is not None:
                    configurations.append(configuration)
                    configuration = runner.step(configuration)
        pairs.append((runner, configurations))
    return pairs


def runs_from(several, steps):
    """Return the configurations of a run from a word of ones."""
    configuration = several.begin(((1, 1),) + ((),) * (several.tapes - 1))
    found = []
    while configuration is not None and len(found) < steps:
        found.append(configuration)
        configuration = several.step(configuration)
    return found


def endless():
    """Return pairs of a line or a grid, and some of its configurations."""
    rng = rng_of(182)
    found = []
    for stair in [partstair.PartStair(turner()), flystair.FlyStair(counter()), film.Film(counter()).stair]:
        a, b, c = stair.lower.sizes
        lines = [tuple((rng.randrange(1, a), rng.randrange(b), rng.randrange(c)) for _ in range(many))
                 for many in range(6) for _ in range(8)]
        found.append((stair.lower, lines))
    for values in [blocks.balls().rule, (0,) + tuple(rng.sample(range(1, 16), 15))]:
        grids = [(rng.randrange(2), tuple(sorted({(rng.randint(-3, 3), rng.randint(-3, 3)) for _ in range(many)})))
                 for many in range(8) for _ in range(5)]
        found.append((blocks.Blocks(values), grids))
    return found


class Machines(unittest.TestCase):
    def test_machines_that_stop(self):
        for both, configurations in stopping():
            stops = 0
            for configuration in configurations:
                after, earlier = both.step(configuration), both.back(configuration)
                self.assertIsInstance(both.stopped(configuration), bool)
                if isinstance(both, Several):
                    self.assertEqual(both.stopped(configuration), after is None)
                    self.assertTrue(both.is_configuration(configuration))
                stops += after is None
                if after is not None:
                    self.assertEqual(both.back(after), configuration)
                if earlier is not None:
                    self.assertEqual(both.step(earlier), configuration)
                end, taken = both.run(configuration, 9)
                self.assertEqual(both.run_back(end, taken), (configuration, taken))
                self.assertEqual(taken < 9, both.step(end) is None and taken < 9)
                begin, gone = both.run_back(configuration, 9)
                self.assertEqual(both.run(begin, gone), (configuration, gone))
                self.assertEqual(both.run(configuration, 0), (configuration, 0))
                self.assertEqual(both.run_back(configuration, 0), (configuration, 0))
            self.assertGreater(stops, 0)

    def test_no_two_lead_to_one(self):
        for both, configurations in stopping():
            there = [both.step(configuration) for configuration in set(configurations)]
            there = [after for after in there if after is not None]
            self.assertEqual(len(set(there)), len(there))
        for both, configurations in endless():
            there = [both.step(configuration) for configuration in set(configurations)]
            self.assertEqual(len(set(there)), len(there))

    def test_machines_that_never_stop(self):
        for both, configurations in endless():
            self.assertFalse(hasattr(both, "stopped"))
            for configuration in configurations:
                self.assertTrue(both.is_configuration(configuration))
                self.assertEqual(both.back(both.step(configuration)), configuration)
                self.assertEqual(both.step(both.back(configuration)), configuration)
                for steps in (0, 1, 6):
                    end = both.run(configuration, steps)
                    self.assertTrue(both.is_configuration(end))
                    self.assertEqual(both.run_back(end, steps), configuration)
                    self.assertEqual(both.run(both.run_back(configuration, steps), steps), configuration)

    def test_ordinary_machines(self):
        rng = rng_of(183)
        for upper in [counter(), tape.Tape(3, 2, some_rows(rng, 3, 2))]:
            self.assertFalse(hasattr(upper, "back"))
            for _ in range(40):
                configuration = (rng.randrange(2),) + some_tape(rng, upper.marks)
                self.assertEqual(upper.stopped(configuration), upper.step(configuration) is None)
                end, taken = upper.run(configuration, 5)
                for _ in range(taken):
                    configuration = upper.step(configuration)
                self.assertEqual(configuration, end)
                self.assertTrue(taken == 5 or upper.stopped(end))


class Stairs(unittest.TestCase):
    def stairs(self):
        """Return each stair with a function that makes its `down` of a configuration alone."""
        rng = rng_of(184)
        found = [(partstair.PartStair(turner()), None)]
        for upper in [counter(), tape.Tape(2, 3, some_rows(rng, 2, 3))]:
            found += [(flystair.FlyStair(upper), None), (history.History(upper), ())]
        return found

    def test_attributes(self):
        for stair, _ in self.stairs():
            self.assertTrue(hasattr(stair.upper, "step") and hasattr(stair.lower, "step"))
            self.assertTrue(hasattr(stair.lower, "back"))

    def test_up_of_down(self):
        rng = rng_of(185)
        for stair, past in self.stairs():
            upper = stair.upper
            for _ in range(40):
                state, some = rng.randrange(upper.states), some_tape(rng, upper.marks)
                configuration = (state, (some,)) if isinstance(upper, Several) else (state,) + some
                line = stair.down(configuration) if past is None else stair.down(configuration, past)
                expected = configuration if past is None else (configuration, past)
                self.assertEqual(stair.up(line), expected)
                pace, after = stair.pace(configuration), upper.step(configuration)
                self.assertEqual(pace == 0, after is None)
                for steps in range(1, pace):
                    between = stair.lower.run(line, steps)
                    self.assertIsNone(stair.up(between if past is None else between[0]))
                if pace > 0:
                    end = stair.lower.run(line, pace)
                    found = stair.up(end) if past is None else stair.up(end[0])[0]
                    self.assertEqual(found, after)


class Arguments(unittest.TestCase):
    def test_they_stay_as_they_were(self):
        changes = {(0, 0, 0): (0, 0, 0), (0, 1, 0): (1, 1, 1)}
        gates = [("turn", (0,), 1), ("swap", (), 0, 1)]
        table = [(1, 0), (0, 1), (1, 1), (0, 0)]
        for call, arguments in [
                (tape.Tape, [2, 2, list(COUNTER)]), (Several, [1, 3, 3, list(TURNER)]), (nets.Net, [2, gates]),
                (Program, [3, ("a", "b"), dict(BRANCHED)]), (parts.Parts, [(2, 2, 2), changes]), (tables.table_net, [table]),
                (tables.turned_net, [table]), (blocks.Blocks, [tuple(range(16))]), (tape.trimmed, [[1, 0, 2, 0]])]:
            passed = copy.deepcopy(arguments)
            call(*arguments)
            self.assertEqual(arguments, passed)
            self.assertEqual([list(item) for item in arguments if isinstance(item, dict)],
                             [list(item) for item in passed if isinstance(item, dict)])

    def test_lists_and_dicts_may_be_changed_afterwards(self):
        rows, several, gates = list(COUNTER), list(TURNER), [("turn", (0,), 1)]
        bodies, changes = dict(BRANCHED), {(0, 0, 0): (0, 0, 0), (0, 1, 0): (1, 1, 1)}
        made = [tape.Tape(2, 2, rows), Several(1, 3, 3, several), nets.Net(2, gates), Program(3, ("a", "b"), bodies),
                parts.Parts((2, 2, 2), changes)]
        for passed in (rows, several, gates, bodies, changes):
            passed.clear()
        self.assertEqual(made[0].table(), COUNTER)
        self.assertEqual(made[0].step((0, (), 0, ())), (1, (1,), 0, ()))
        self.assertEqual(made[1].table(), TURNER)
        self.assertEqual(made[2].gates(), [("turn", (0,), 1)])
        self.assertEqual(made[3].body("main"), BRANCHED["main"])
        self.assertEqual(made[4].rule((0, 1, 0)), (1, 1, 1))

    def test_what_comes_back_may_be_changed(self):
        upper, both, net = counter(), turner(), tables.table_net([(1,), (0,)])
        shown = film.Film(upper)
        line = shown.forward(shown.start((1, 1)), 4)
        stair = flystair.FlyStair(upper)
        forgetful = tape.Tape(2, 1, [(0, 1, 0), (0, 1, 0)])
        for call in [
                upper.table, both.table, net.gates, lambda: forget.clashes(forgetful),
                lambda: forget.before(forgetful, (0, (), 0, ())), lambda: history.trail(upper, (0, (), 0, ()), ()),
                lambda: tables.table_of(net, 1, 1), lambda: stair.lower.rows(line, 2), lambda: stair.memories(line),
                lambda: flystair.past(stair, line), lambda: shown.moments(line, -3, 3)]:
            found = call()
            self.assertIsInstance(found, list)
            kept = list(found)
            self.assertTrue(kept)
            found.clear()
            self.assertEqual(call(), kept)

    def test_machines_are_not_changed_by_what_is_made_of_them(self):
        upper, both, program = counter(), turner(), Program(3, ("a", "b"), BRANCHED)
        net = nets.Net(3, [("turn", (0, 1), 2), ("swap", (), 0, 1)])
        gates = net.gates()
        for call in [
                lambda: written.text_of(upper), lambda: forget.forgets(upper), lambda: plain.plain(upper),
                lambda: plain.joined(both, 2, both), lambda: inverse.witness(both), lambda: inverse.inverse(both),
                lambda: history.History(upper), lambda: clean.clean(upper), lambda: film.Film(upper).answer((1,), 5),
                lambda: film.lost(upper, (0, (), 0, ()), 5), lambda: film.parted(upper, (0, (), 0, ()), (1, (), 0, ()), 5),
                lambda: partstair.PartStair(both), lambda: flystair.FlyStair(upper),
                lambda: nets.inverse_net(net), lambda: nets.joined_nets(net, net), lambda: nets.simple(net),
                lambda: nets.controlled(nets.Net(4, gates), 3), lambda: straight.net_of(program),
                lambda: straight.net_answer(program, (1, 2)), lambda: invert.inverse_program(program),
                lambda: parse.text_of(program), lambda: machine.answer(program, (1, 2), 50)]:
            call()
            self.assertEqual(upper.table(), COUNTER)
            self.assertEqual(both.table(), TURNER)
            self.assertEqual(net.gates(), gates)
            self.assertEqual({name: program.body(name) for name in program.names}, BRANCHED)
            self.assertEqual((upper.marks, upper.states, both.tapes, both.marks, both.states), (2, 2, 1, 3, 3))
            self.assertEqual((program.width, program.variables, program.names), (3, ("a", "b"), ("main", "p")))

    def test_true_and_false_are_no_integers(self):
        for call, arguments in [
                (tape.Tape, (True, 1, [None])), (tape.Tape, (2, True, [None] * 2)), (tape.Tape, (2, 1, [None, (True, 1, 0)])),
                (Several, (True, 2, 1, [])), (Several, (1, 2, True, [])), (Several, (1, 2, 1, [("move", 0, (True,), 0)])),
                (Program, (True, ("a",), {"main": ()})), (Program, (1, ("a",), {"main": (("+=", "a", True),)})),
                (nets.Net, (True, [])), (nets.Net, (2, [("turn", (False,), 1)])), (tables.table_net, ([(0,), (True,)],)),
                (parts.Parts, ((True, 1, 1), {(0, 0, 0): (0, 0, 0)})), (blocks.Blocks, ((False,) + tuple(range(1, 16)),)),
                (counter().begin, ((True,),)), (turner().begin, (((True,),),)), (film.Film(counter()).start, ((True,),))]:
            with self.assertRaises(BackError):
                call(*arguments)
        self.assertIs(counter().is_configuration((False, (), 0, ())), False)
        self.assertIs(turner().is_configuration((0, (((), True, ()),))), False)
        self.assertIs(parts.Parts((2, 2, 2), {(0, 0, 0): (0, 0, 0)}).is_configuration(((True, 0, 0),)), False)
        self.assertIs(blocks.balls().is_configuration((False, ())), False)

    def test_attributes_are_there_from_the_beginning(self):
        program = Program(3, ("a", "b"), BRANCHED)
        for made, names in [
                (counter(), ["marks", "states"]), (turner(), ["tapes", "marks", "states"]),
                (history.History(counter()), ["upper", "lower"]), (program, ["width", "variables", "names"]),
                (nets.Net(1, []), ["lines"]), (parts.Parts((1, 1, 1), {(0, 0, 0): (0, 0, 0)}), ["sizes"]),
                (partstair.PartStair(turner()), ["upper", "lower"]), (flystair.FlyStair(counter()), ["upper", "lower"]),
                (blocks.balls(), ["rule"]), (film.Film(counter()), ["machine", "stair"])]:
            for name in names:
                self.assertIn(name, vars(made))


class Errors(unittest.TestCase):
    def test_all_of_them(self):
        found = [value for value in vars(errors).values() if inspect.isclass(value)]
        self.assertEqual(len(found), 17)
        for error in found:
            self.assertEqual(error.__module__, "backstair.errors")
            if error is not BackError:
                self.assertEqual(error.__bases__, (BackError,))
        self.assertEqual(BackError.__bases__, (ValueError,))
