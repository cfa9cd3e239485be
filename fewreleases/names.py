"""Names and ascending tuples."""

LETTERS = "abcdefghijklmnopqrstuvwxyz"
LONGEST_NAME = 8


def is_name(value):
    """Return whether any value is a name."""
    if not isinstance(value, str) or not 1 <= len(value) <= LONGEST_NAME:
        return False
    # Not isalpha or islower: they accept letters beyond a to z.
    return all([letter in LETTERS for letter in value])


def is_ascending(parts):
    """Return whether parts that can be compared are ascending, without duplicates."""
    return all([low < high for low, high in zip(parts, parts[1:])])


def is_names(value, fewest, most):
    """Return whether any value is an ascending tuple of fewest to most names."""
    if not isinstance(value, tuple) or not fewest <= len(value) <= most:
        return False
    return all([is_name(part) for part in value]) and is_ascending(value)


def is_some_of(known, value):
    """Return whether any value is an ascending tuple of some of these known strings or steps."""
    if not isinstance(value, tuple):
        return False
    return all([part in known for part in value]) and is_ascending(value)
