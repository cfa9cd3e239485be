"""Integers."""


def is_between(value, low, high):
    """Return whether any value is an integer from low to high."""
    return isinstance(value, int) and not isinstance(value, bool) and low <= value <= high
