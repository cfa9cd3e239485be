"""Fields, readers and formats."""

from fewreleases.names import is_names

MOST_FIELDS = 12


def is_fields(value):
    """Return whether any value is fields."""
    return is_names(value, 0, MOST_FIELDS)


def is_reader(value):
    """Return whether any value is a reader (needs, knows)."""
    if not isinstance(value, tuple) or len(value) != 2:
        return False
    needs, knows = value
    return is_fields(needs) and is_fields(knows) and has_all(knows, needs)


def is_format(value):
    """Return whether any value is a format (written, needs, knows)."""
    if not isinstance(value, tuple) or len(value) != 3:
        return False
    written = value[0]
    reader = value[1:]
    return is_fields(written) and is_reader(reader) and accepts(reader, written)


def accepts(reader, written):
    """Return whether a reader, also a wide one, accepts fields."""
    needs, knows = reader
    return has_all(written, needs) and has_all(knows, written)


def widened(reader, other):
    """Return the wide reader of two readers."""
    needs = sorted(set(reader[0]) & set(other[0]))
    knows = sorted(set(reader[1]) | set(other[1]))
    return (tuple(needs), tuple(knows))


def has_all(fields, wanted):
    """Return whether each wanted field is one of the fields."""
    return all([field in fields for field in wanted])
