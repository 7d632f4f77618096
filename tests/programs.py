"""A slow and plain model of programs, made from the document alone, and many programs to try."""

OPPOSITES = {"+=": "-=", "-=": "+=", "call": "uncall", "uncall": "call"}
RELATIONS = ("==", "!=", "<")
OPERATORS = ("+", "-", "*", "&", "|", "^")


class Stop(Exception):
    """A run of the model is refused."""


def inverse(body):
    """Return the inverse of a body."""
    found = []
    for statement in body:
        if statement[0] in ("if", "from"):
            word, c, one, two, d = statement
            found.insert(0, (word, d, inverse(one), inverse(two), c))
        else:
            found.insert(0, (OPPOSITES.get(statement[0], statement[0]),) + statement[1:])
    return tuple(found)


class Model:
    """A run of a program, one item (heading, number of frames, store) after each step."""

    def __init__(self, width, variables, procedures, store):
        self.size = 2 ** width
        self.variables = variables
        self.procedures = procedures
        self.values = dict(zip(variables, store))

    def worth(self, value):
        """Return what an atom, an expression or a condition is worth."""
        if isinstance(value, str):
            return self.values[value]
        if isinstance(value, int):
            return value
        word, one, two = value[0], self.worth(value[1]), self.worth(value[2])
        table = {"+": one + two, "-": one - two, "*": one * two, "&": one & two, "|": one | two, "^": one ^ two,
                 "==": one == two, "!=": one != two, "<": one < two}
        return table[word] if word in RELATIONS else table[word] % self.size

    def point(self, heading, depth):
        """Return what can be told of a configuration."""
        return (heading, depth, tuple(self.values[name] for name in self.variables))

    def test(self, condition, wanted):
        """Refuse the run unless a condition is as it is wanted."""
        if self.worth(condition) != wanted:
            raise Stop

    def body(self, body, heading, depth):
        """Run a body, and give an item after each step."""
        for statement in body:
            yield from self.statement(statement, heading, depth)

    def statement(self, statement, heading, depth):
        """Run a statement, and give an item after each step."""
        word = statement[0]
        if word == "if":
            _, c, one, two, d = statement
            truth = self.worth(c)
            yield self.point(heading, depth)
            yield from self.body(one if truth else two, heading, depth)
            self.test(d, truth)
        elif word == "from":
            _, c, one, two, d = statement
            self.test(c, True)
            yield self.point(heading, depth)
            yield from self.body(one, heading, depth)
            while not self.worth(d):
                yield self.point(heading, depth)
                yield from self.body(two, heading, depth)
                self.test(c, False)
                yield self.point(heading, depth)
                yield from self.body(one, heading, depth)
        elif word in ("call", "uncall"):
            body = self.procedures[statement[1]]
            inner = 1 if word == "call" else -1
            yield self.point(inner, depth + 1)
            yield from self.body(body if word == "call" else inverse(body), inner, depth + 1)
        elif word == "swap":
            _, x, y = statement
            self.values[x], self.values[y] = self.values[y], self.values[x]
        else:
            _, x, expression = statement
            old, number = self.values[x], self.worth(expression)
            self.values[x] = {"+=": old + number, "-=": old - number, "^=": old ^ number}[word] % self.size
        yield self.point(heading, depth)


def trace(width, variables, procedures, store, most, backwards=False):
    """Return the list of what a run shows, its beginning first, and how it came out: "end", "refused" or "long"."""
    model = Model(width, variables, procedures, store)
    heading = -1 if backwards else 1
    body = inverse(procedures["main"]) if backwards else procedures["main"]
    shown = [model.point(heading, 0)]
    try:
        for item in model.body(body, heading, 0):
            if len(shown) > most:
                return shown, "long"
            shown.append(item)
    except Stop:
        return shown, "refused"
    return shown, "end"


def some_atom(rng, width, names):
    """Return some atom with these variables."""
    if names and rng.randrange(2):
        return rng.choice(names)
    return rng.randrange(2 ** width)


def some_condition(rng, width, names):
    """Return some condition."""
    return (rng.choice(RELATIONS), some_atom(rng, width, names), some_atom(rng, width, names))


def some_change(rng, width, names):
    """Return some statement that changes a variable."""
    x = rng.choice(names)
    others = [name for name in names if name != x]
    expression = some_atom(rng, width, others)
    if rng.randrange(3):
        expression = (rng.choice(OPERATORS), some_atom(rng, width, others), some_atom(rng, width, others))
    return (rng.choice(("+=", "-=", "^=")), x, expression)


def some_statement(rng, width, names, calls, depth):
    """Return some statement that changes only these variables, with its bodies at most so deep."""
    kind = rng.randrange(8 if depth else 5)
    if kind == 3 and len(names) > 1:
        return ("swap",) + tuple(rng.sample(names, 2))
    if kind == 4 and calls:
        return (rng.choice(("call", "uncall")), rng.choice(calls))
    if kind < 5:
        return some_change(rng, width, names)
    # Mostly the tested variable stays as it is, so that not nearly each run is refused.
    kept = rng.choice(names)
    inner = [name for name in names if name != kept] if len(names) > 1 and rng.randrange(8) else names
    one = some_body(rng, width, inner, calls, depth - 1, 3)
    two = some_body(rng, width, inner, calls, depth - 1, 3)
    if kind < 7:
        condition = some_condition(rng, width, [kept])
        other = condition if rng.randrange(6) else some_condition(rng, width, [kept])
        return ("if", condition, one, two, other)
    last = rng.randrange(2 ** width)
    if rng.randrange(4) == 0:
        return ("from", some_condition(rng, width, names), one, two, some_condition(rng, width, names))
    return ("from", ("==", kept, rng.choice((0, last))), one, (("+=", kept, 1),) + two, ("==", kept, last))


def some_body(rng, width, names, calls, depth, most):
    """Return some body."""
    return tuple(some_statement(rng, width, names, calls, depth) for _ in range(rng.randrange(most + 1)))


def some_parts(rng, most=4):
    """Return the width, the variables and the procedures of some program; its procedures call any other ones."""
    width = rng.choice((1, 1, 2, 2, 3, 8))
    names = ["a", "b", "c", "main", "p", "x"][:rng.randrange(1, 5)]
    calls = ["p", "q", "r"][:rng.randrange(4)]
    procedures = {name: some_body(rng, width, names, calls, 2, 3) for name in calls}
    procedures["main"] = some_body(rng, width, names, calls, 3, most)
    return width, tuple(names), procedures


def some_store(rng, width, variables):
    """Return some store."""
    return tuple(rng.randrange(2 ** width) for _ in variables)
