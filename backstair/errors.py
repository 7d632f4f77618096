"""All errors that the program raises."""


class BackError(ValueError):
    """The base class of all errors of the program."""


class BadMachine(BackError):
    """A machine cannot be made of this, or has no such state or mark."""


class BadMark(BackError):
    """A word contains what is not a mark."""


class BadText(BackError):
    """A text is not the text of anything; `line` is the first line that shows it."""

    def __init__(self, line):
        BackError.__init__(self, f"line {line} is wrong or missing")
        self.line = line


class Clash(BackError):
    """The rows with the indexes `first` and `second` clash."""

    def __init__(self, first, second):
        BackError.__init__(self, f"the rows {first} and {second} clash")
        self.first = first
        self.second = second


class BadPast(BackError):
    """No run has this past."""


class BadProgram(BackError):
    """A program cannot be made of this, or has no such procedure."""


class BadStore(BackError):
    """A store does not have one value for each variable."""


class TooLong(BackError):
    """A run is not at its end after the steps that were allowed."""


class Refused(BackError):
    """A run was refused after `steps` steps, with the values `store`."""

    def __init__(self, steps, store):
        BackError.__init__(self, f"refused after {steps} steps")
        self.steps = steps
        self.store = store


class BadNet(BackError):
    """A net cannot be made of this."""


class BadBits(BackError):
    """A tuple does not have one bit for each line of a net."""


class BadTable(BackError):
    """A value is not a table, or not one that is allowed here."""


class NotClean(BackError):
    """A net changes or leaves bits where it must not."""


class NotStraight(BackError):
    """A program cannot be turned into a net."""


class BadParts(BackError):
    """A line of cells in parts cannot be made of this."""


class BadBlocks(BackError):
    """A rule of blocks cannot be made of this."""
