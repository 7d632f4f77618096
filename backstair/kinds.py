"""What counts as a number, for all that the program is passed."""


def is_whole(value):
    """Return whether a value is an integer."""
    # Python takes True and False for 1 and 0, but they are no integers here.
    return isinstance(value, int) and not isinstance(value, bool)


def is_number(value, low, high):
    """Return whether a value is an integer from `low` to `high`."""
    return is_whole(value) and low <= value <= high


def are_numbers(value, low, high):
    """Return whether a value is a tuple of integers from `low` to `high`."""
    if not isinstance(value, tuple):
        return False
    return all([is_number(item, low, high) for item in value])
