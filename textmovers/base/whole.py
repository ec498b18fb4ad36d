"""Integers as the package understands them."""


def is_whole(value):
    """Whether the value is an integer, but neither True nor False."""
    return isinstance(value, int) and not isinstance(value, bool)


def is_passed(value):
    """Whether the value is an integer that may be passed: one of at most sixty digits."""
    return is_whole(value) and abs(value) < 10 ** 60


def is_between(value, low, high):
    """Whether the value is an integer from low to high, both included."""
    return is_whole(value) and low <= value <= high
