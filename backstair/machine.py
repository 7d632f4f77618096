"""The machine of a program, which runs it forwards and backwards."""

from backstair.errors import BadStore, Refused, TooLong
from backstair.lang import is_store
from backstair.points import Points
from backstair.worth import expression_worth, holds


class Walk:
    """A run on its way; its frames are a list, because deep calls would take too long with a new tuple for each."""

    def __init__(self, points, most, configuration):
        point, heading, frames, store = configuration
        self.points = points
        self.most = most
        self.point = point
        self.heading = heading
        self.frames = list(frames)
        self.numbers = list(store)

    def advance(self):
        """Take one step; return whether it could be taken."""
        steps = self.points.onward if self.heading == 1 else self.points.backward
        step = steps[self.point]
        word = step[0]
        if word == "change":
            self.change(step)
        elif word == "choose":
            self.point = step[2] if holds(step[1], self.numbers) else step[3]
        elif word == "demand":
            if holds(step[1], self.numbers) != step[2]:
                return False
            self.point = step[3]
        elif word == "swap":
            self.exchange(step)
        elif word == "enter":
            self.go_in(step)
        else:
            return self.come_out()
        return True

    def change(self, step):
        """Take the step of a statement that changes a variable."""
        _, sign, place, expression, after = step
        number = expression_worth(expression, self.numbers)
        if sign == "+=":
            number = self.numbers[place] + number
        elif sign == "-=":
            number = self.numbers[place] - number
        else:
            number = self.numbers[place] ^ number
        # All arithmetic is modulo 2 ** w; of a number below 0, too, "&" takes the rest.
        self.numbers[place] = number & self.most
        self.point = after

    def exchange(self, step):
        """Take the step of a statement that exchanges two variables."""
        _, one, two, after = step
        self.numbers[one], self.numbers[two] = self.numbers[two], self.numbers[one]
        self.point = after

    def go_in(self, step):
        """Take the step into a procedure."""
        name, turn, before = step[1:4]
        # The point before a call tells which call it is, whichever way it is run.
        self.frames.append(before)
        self.heading = self.heading * turn
        self.point = self.points.firsts[name] if self.heading == 1 else self.points.lasts[name]

    def come_out(self):
        """Take the step out of a procedure; return whether there was a call to come back from."""
        if len(self.frames) == 0:
            return False
        turn, before, after = self.points.onward[self.frames.pop()][2:]
        self.heading = self.heading * turn
        self.point = after if self.heading == 1 else before
        return True

    def configuration(self):
        """Return the configuration that the run has come to."""
        return (self.point, self.heading, tuple(self.frames), tuple(self.numbers))


def faced_about(configuration):
    """Return the configuration with the other heading in it."""
    point, heading, frames, store = configuration
    return (point, -heading, frames, store)


class Machine:
    """The machine of a program; a configuration is a tuple (point, heading, frames, store)."""

    def __init__(self, program):
        self._points = Points(program)
        self._most = (1 << program.width) - 1

    def begin(self, store):
        """Return the configuration at the first point of main."""
        return (self._points.firsts["main"], 1, (), store)

    def final(self, store):
        """Return the configuration at the last point of main."""
        return (self._points.lasts["main"], 1, (), store)

    def step(self, configuration):
        """Return the configuration after one step, or None if there is none or it is refused."""
        after, taken = self.run(configuration, 1)
        if taken == 0:
            return None
        return after

    def stopped(self, configuration):
        """Return whether the run is at its end; a refused one is not."""
        point, heading, frames, _ = configuration
        if heading == 1:
            return frames == () and point == self._points.lasts["main"]
        return frames == () and point == self._points.firsts["main"]

    def run(self, configuration, steps):
        """Take at most so many steps; return the configuration and the number of steps."""
        walk = Walk(self._points, self._most, configuration)
        taken = 0
        while taken < steps and walk.advance():
            taken += 1
        return (walk.configuration(), taken)

    def back(self, configuration):
        """Return the configuration from which a step leads to this one, or None."""
        before, taken = self.run_back(configuration, 1)
        if taken == 0:
            return None
        return before

    def run_back(self, configuration, steps):
        """Go back at most so many steps; return the configuration and the number of steps."""
        before, taken = self.run(faced_about(configuration), steps)
        return (faced_about(before), taken)


def answer(program, store, most):
    """Return the store at the end of a run of at most so many steps, and their number."""
    if not is_store(store, program):
        raise BadStore("the store does not have one number for each variable")
    machine = Machine(program)
    end, taken = machine.run(machine.begin(store), most)
    if machine.stopped(end):
        return (end[3], taken)
    # A run that could go on was only cut off.
    if machine.step(end) is not None:
        raise TooLong("the run is not at its end")
    raise Refused(taken, end[3])
