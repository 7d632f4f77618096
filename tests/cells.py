"""A slow and plain model of lines of cells in parts, made from the document alone."""

QUIET = (0, 0, 0)


def full_rule(sizes, changes):
    """Return the dict of the rule that [6.4] tells, sorted anew for each triple."""
    a, b, c = sizes
    triples = sorted((x, y, z) for x in range(c) for y in range(b) for z in range(a))
    cells = sorted((x, y, z) for x in range(a) for y in range(b) for z in range(c))
    rule = dict(changes)
    values = set(changes.values())
    rule.update(zip([triple for triple in triples if triple not in changes],
                    [cell for cell in cells if cell not in values]))
    return rule


def spread(line):
    """Return the dict from places to cells of a line whose first cell stands at the place 0."""
    return dict(enumerate(line))


def line_at(places):
    """Return the configuration of a dict from places to cells."""
    used = [at for at, cell in places.items() if cell != QUIET]
    if not used:
        return ()
    return tuple(places.get(at, QUIET) for at in range(min(used), max(used) + 1))


def step_places(rule, places):
    """Return the dict from places to cells after one step."""
    around = {at + by for at in places for by in (-1, 0, 1)}
    get = places.get
    return {at: rule[(get(at - 1, QUIET)[2], get(at, QUIET)[1], get(at + 1, QUIET)[0])] for at in around}


def step_line(rule, line):
    """Return the configuration after one step."""
    return line_at(step_places(rule, spread(line)))


def some_changes(rng, sizes, many):
    """Return some dict of changes."""
    a, b, c = sizes
    triples = [(x, y, z) for x in range(c) for y in range(b) for z in range(a)]
    cells = [(x, y, z) for x in range(a) for y in range(b) for z in range(c)]
    many = min(many, len(cells) - 1)
    changes = dict(zip(rng.sample(triples[1:], many), rng.sample(cells[1:], many)))
    changes[QUIET] = QUIET
    return changes


def some_line(rng, sizes, longest=6):
    """Return some configuration."""
    cells = [tuple(rng.randrange(size) for size in sizes) if rng.randrange(3) else QUIET for _ in range(rng.randrange(longest + 1))]
    return line_at(dict(enumerate(cells)))
