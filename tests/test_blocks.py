"""[0.3], [0.5], [6.16] to [6.21]: balls on a grid."""

import itertools
import unittest

from backstair.blocks import Blocks, balls, inverse_blocks, keeps, turned_about
from backstair.errors import BackError, BadBlocks
from tests.oracle import ODD, rng_of

BALLS = (0, 8, 4, 3, 2, 5, 9, 7, 1, 6, 10, 11, 12, 13, 14, 15)
STILL = tuple(range(16))
# The weights of the places of a block, the upper left one at the corner.
WEIGHTS = {(0, 0): 1, (1, 0): 2, (0, 1): 4, (1, 1): 8}


def replaced(values, phase, places):
    """Return the places of the balls after all blocks of a phase are replaced, by a look at each block."""
    found = []
    corners = {(x - dx, y - dy) for x, y in places for dx in (0, 1) for dy in (0, 1)}
    for x, y in corners:
        if x % 2 == phase and y % 2 == phase:
            number = sum(weight for (dx, dy), weight in WEIGHTS.items() if (x + dx, y + dy) in places)
            found += [(x + dx, y + dy) for (dx, dy), weight in WEIGHTS.items() if values[number] & weight]
    return tuple(sorted(found))


def step_told(values, configuration):
    """Return the configuration after one step."""
    phase, places = configuration
    return (1 - phase, replaced(values, phase, places))


def some_rule(rng):
    """Return some rule."""
    values = list(range(1, 16))
    rng.shuffle(values)
    return (0, *values)


def rules():
    """Return many rules."""
    rng = rng_of(151)
    swapped = list(STILL)
    swapped[3], swapped[12] = 12, 3
    return [BALLS, STILL, tuple(swapped), (0, *range(15, 0, -1)), (0, *range(2, 16), 1)] + [some_rule(rng) for _ in range(20)]


def some_configuration(rng, most=12, size=3, by=0):
    """Return some configuration, with balls below 0, too."""
    places = {(rng.randint(-size, size) + by, rng.randint(-size, size) - by) for _ in range(rng.randrange(most + 1))}
    return (rng.randrange(2), tuple(sorted(places)))


def some_configurations(seed):
    """Return many configurations, some of them far away."""
    rng = rng_of(seed)
    found = [some_configuration(rng) for _ in range(30)] + [(0, ()), (1, ())]
    return found + [some_configuration(rng, by=by) for by in (10 ** 6, -10 ** 6 - 1, 10 ** 20, 10 ** 20 + 1, -10 ** 40 - 1)]


class Rules(unittest.TestCase):
    def test_rule(self):
        for values in rules():
            machine = Blocks(values)
            self.assertEqual(machine.rule, values)
            self.assertIsInstance(machine.rule, tuple)

    def test_no_rules(self):
        swapped = (1, 0) + STILL[2:]
        for wrong in ODD + [
                (), (0,), STILL[:15], STILL + (16,), STILL + (0,), STILL + (15,), list(STILL), list(BALLS), STILL[::-1], swapped,
                STILL[1:] + (0,), (0, 1, 1) + STILL[3:], STILL[:15] + (14,), STILL[:15] + (0,), STILL[:15] + (16,),
                STILL[:15] + (-1,), (0, True) + STILL[2:], (False,) + STILL[1:], STILL[:15] + (None,), STILL[:15] + ("15",),
                STILL[:15] + (15.0,), STILL[:15] + ((15,),), (0,) * 16, STILL[:15] + (10 ** 30,), "0123456789abcdef",
                bytes(range(16)), {n: n for n in range(16)}, set(range(16)), range(16), (0, [1]) + STILL[2:]]:
            with self.assertRaises(BadBlocks, msg=repr(wrong)):
                Blocks(wrong)
        self.assertTrue(issubclass(BadBlocks, BackError))

    def test_inverse(self):
        for values in rules():
            machine = Blocks(values)
            undone = inverse_blocks(machine)
            self.assertIsInstance(undone, Blocks)
            self.assertEqual([undone.rule[values[n]] for n in range(16)], list(range(16)))
            self.assertEqual([values[undone.rule[n]] for n in range(16)], list(range(16)))
            self.assertEqual(inverse_blocks(undone).rule, values)
            self.assertEqual(machine.rule, values)

    def test_balls(self):
        machine = balls()
        self.assertIsInstance(machine, Blocks)
        self.assertEqual(machine.rule, BALLS)
        self.assertEqual(inverse_blocks(machine).rule, BALLS)

    def test_keeps(self):
        for values in rules():
            expected = all(bin(n).count("1") == bin(value).count("1") for n, value in enumerate(values))
            self.assertIs(keeps(Blocks(values)), expected)
        for one, two in itertools.combinations(range(1, 16), 2):
            values = list(STILL)
            values[one], values[two] = two, one
            self.assertIs(keeps(Blocks(tuple(values))), bin(one).count("1") == bin(two).count("1"))
        self.assertIs(keeps(balls()), True)


class Configurations(unittest.TestCase):
    def test_right_ones(self):
        for right in [(0, ()), (1, ()), (0, ((0, 0),)), (1, ((-5, 3), (-5, 4), (0, -9), (10 ** 30, 0))),
                      (0, ((0, 0), (0, 1), (1, 0), (1, 1)))] + some_configurations(152):
            for machine in (balls(), Blocks(STILL)):
                self.assertIs(machine.is_configuration(right), True, repr(right))

    def test_wrong_ones(self):
        machine = balls()
        for wrong in ODD + [
                (0, ((0, 1), (0, 0))), (0, ((1, 0), (0, 1))), (0, ((0, 0), (0, 0))), (1, ((0, 0), (1, 1), (1, 1))),
                (1, ((0, 0), (2, 0), (1, 0))), (2, ()), (-1, ()), (True, ()), (False, ()), (None, ()), ("0", ()), (0.0, ()),
                ((0,), ()), (0,), (0, (), ()), (), (0, []), (0, [(0, 0)]), [0, ()], [0, ((0, 0),)], (0, ([0, 0],)),
                (0, ((0, 0), [0, 1])), (0, ((0, True),)), (0, ((True, 0),)), (0, ((0, 0), (False, 1))), (0, ((0,),)),
                (0, ((0, 0, 0),)), (0, ((0, None),)), (0, (("0", 0),)), (0, ((0, 1.0),)), (0, (None,)), (0, (0,)), (0, (0, 0)),
                (0, None), (0, 5), (0, ""), (0, "00"), (0, {}), (0, {(0, 0)}), ((), 0), (((0, 0),), 0), {0: (), 1: ()}]:
            self.assertIs(machine.is_configuration(wrong), False, repr(wrong))

    def test_turned_about(self):
        for configuration in some_configurations(153):
            phase, places = configuration
            self.assertEqual(turned_about(configuration), (1 - phase, places))
            self.assertEqual(turned_about(turned_about(configuration)), configuration)


class Steps(unittest.TestCase):
    def test_all_blocks(self):
        # Each block alone, in both phases, at places below 0 and above it.
        for values in rules():
            machine = Blocks(values)
            for number in range(16):
                for x, y in [(0, 0), (2, -4), (-2, 6), (-100, -100), (10 ** 20, 0)]:
                    for phase in (0, 1):
                        corner = (x + phase, y + phase)
                        places = [tuple(sorted((corner[0] + dx, corner[1] + dy) for (dx, dy), weight in WEIGHTS.items()
                                               if block & weight)) for block in (number, values[number])]
                        self.assertEqual(machine.step((phase, places[0])), (1 - phase, places[1]))
                        self.assertEqual(machine.back((1 - phase, places[1])), (phase, places[0]))

    def test_places_of_a_block(self):
        # Only the ball in the upper right moves: to the lower left, and back.
        values = list(STILL)
        values[2], values[4] = 4, 2
        machine = Blocks(tuple(values))
        self.assertEqual(machine.step((0, ((1, 0),))), (1, ((0, 1),)))
        self.assertEqual(machine.step((0, ((0, 1),))), (1, ((1, 0),)))
        # In the phase 1 this is the upper right place of the block of (-1, 1).
        self.assertEqual(machine.step((1, ((0, 1),))), (0, ((-1, 2),)))
        self.assertEqual(machine.step((1, ((1, 1),))), (0, ((1, 1),)))
        # A ball in the upper left goes to the upper right, to the lower right, to the lower left.
        machine = Blocks((0, 2, 8, 3, 1, 5, 6, 7, 4, 9, 10, 11, 12, 13, 14, 15))
        self.assertEqual(machine.step((0, ((0, 0),))), (1, ((1, 0),)))
        self.assertEqual(machine.step((0, ((1, 0),))), (1, ((1, 1),)))
        self.assertEqual(machine.step((0, ((1, 1),))), (1, ((0, 1),)))
        self.assertEqual(machine.step((0, ((0, 1),))), (1, ((0, 0),)))

    def test_against_the_model(self):
        for values in rules():
            machine = Blocks(values)
            for configuration in some_configurations(154):
                after = machine.step(configuration)
                self.assertEqual(after, step_told(values, configuration))
                self.assertTrue(machine.is_configuration(after))
                before = machine.back(configuration)
                self.assertTrue(machine.is_configuration(before))
                self.assertEqual(step_told(values, before), configuration)
                self.assertEqual(machine.back(after), configuration)
                self.assertEqual(machine.step(before), configuration)

    def test_runs(self):
        for values in rules():
            machine = Blocks(values)
            for configuration in some_configurations(155)[::4]:
                run = [configuration]
                for steps in range(8):
                    self.assertEqual(machine.run(configuration, steps), run[-1])
                    self.assertEqual(machine.run_back(run[-1], steps), configuration)
                    before = machine.run_back(configuration, steps)
                    self.assertEqual(machine.run(before, steps), configuration)
                    run.append(step_told(values, run[-1]))
            for steps in (0, 1, 5):
                self.assertEqual(machine.run((0, ()), steps), (steps % 2, ()))
                self.assertEqual(machine.run_back((1, ()), steps), ((1 + steps) % 2, ()))
        self.assertFalse(hasattr(Blocks, "stopped"))

    def test_inverse(self):
        for values in rules():
            machine, undone = Blocks(values), inverse_blocks(Blocks(values))
            for configuration in some_configurations(156):
                # The inverse steps in the phase of the configuration, so that has to be turned about.
                after = machine.step(configuration)
                self.assertEqual(turned_about(undone.step(turned_about(after))), configuration)


class Flights(unittest.TestCase):
    def test_example(self):
        self.assertEqual(balls().step((0, ((0, 0),))), (1, ((1, 1),)))
        self.assertEqual(balls().run((0, ((0, 0),)), 2), (0, ((2, 2),)))
        self.assertEqual(balls().step((0, ((0, 0), (1, 1)))), (1, ((0, 1), (1, 0))))

    def test_a_ball_alone(self):
        for x, y, phase in itertools.product((-4, -3, 0, 1, 10 ** 9), (-3, 0, 5), (0, 1)):
            dx = 1 if x % 2 == phase else -1
            dy = 1 if y % 2 == phase else -1
            for steps in range(7):
                expected = ((phase + steps) % 2, ((x + dx * steps, y + dy * steps),))
                self.assertEqual(balls().run((phase, ((x, y),)), steps), expected)
                before = ((phase + steps) % 2, ((x - dx * steps, y - dy * steps),))
                self.assertEqual(balls().run_back((phase, ((x, y),)), steps), before)

    def test_two_that_meet(self):
        begin = (0, ((0, 0), (5, 5)))
        # They fly towards each other, meet in the block of (2, 2), and part at right angles.
        self.assertEqual(balls().run(begin, 2), (0, ((2, 2), (3, 3))))
        self.assertEqual(balls().run(begin, 3), (1, ((2, 3), (3, 2))))
        self.assertEqual(balls().run(begin, 5), (1, ((0, 5), (5, 0))))
        self.assertEqual(balls().run_back((1, ((0, 5), (5, 0))), 5), begin)

    def test_number_of_balls(self):
        for values in rules():
            machine = Blocks(values)
            changed = False
            for configuration in some_configurations(157):
                after = machine.run(configuration, 6)
                if keeps(machine):
                    self.assertEqual(len(after[1]), len(configuration[1]))
                changed = changed or len(machine.step(configuration)[1]) != len(configuration[1])
            self.assertEqual(changed, not keeps(machine))

    def test_films_run_backwards(self):
        own = [values for values in rules() if inverse_blocks(Blocks(values)).rule == values]
        self.assertGreaterEqual(len(own), 4)
        for values in own:
            machine = Blocks(values)
            for configuration in some_configurations(158):
                there = machine.step(turned_about(configuration))
                self.assertEqual(there, turned_about(machine.back(configuration)))
                end = machine.run(configuration, 9)
                self.assertEqual(machine.run(turned_about(end), 9), turned_about(configuration))
