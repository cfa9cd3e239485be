"""Values that several tests use."""

import copy

OLD = (('id',), ('id',), ('id',))
NEW = (('id', 'tag'), ('id',), ('id', 'tag'))
NAMED = (('name',), ('name',), ('name',))
TITLED = (('title',), ('title',), ('title',))


def nested(inner, wrap, depth):
    """Return the inner value, wrapped as often as depth says."""
    for _ in range(depth):
        inner = wrap(inner)
    return inner


def wraps():
    """Return the ways to put a value into another one."""
    return [
        lambda inner: (inner,),
        lambda inner: [inner],
        lambda inner: {'a': inner},
        lambda inner: ('a', inner),
        lambda inner: (inner, inner),
    ]


def odd_values():
    """Return values that are no name, fields, reader, format, channel or services."""
    plain = [
        0, 1, -1, 10 ** 5000, True, False, None,
        '', 'A', 'aB', 'a1', 'a b', ' a', 'a ', 'a\n', 'a_', 'a-b', 'a.b', '-', '0', '\u00e4', '\u0430', '\ud800',
        'abcdefghi', 'a' * 20000,
        [], {}, ['a'], ['a', 'b'], {'a': 'b'}, {1: 2}, {(): None}, {None: [], True: {}},
        (0,), (None,), (True, False), ('',), ('B',), ('a', 0), ('a', None), ('b', 'a'), ('a', 'a'), ('a', ['b']),
        (('a',), ()), (('a',), (), ()), ((), (), (), (), ()), [(), ()], [(), (), ()],
    ]
    deep = [nested(inner, wrap, 18) for wrap in wraps()[:4] for inner in (1, None, 'a', (), [], {})]
    wide = [nested('a', wraps()[4], depth) for depth in (1, 2, 8)]
    return plain + deep + wide


def replaced(value, path, part):
    """Return the tuple in which the part stands at the path."""
    if not path:
        return part
    at = path[0]
    return value[:at] + (replaced(value[at], path[1:], part),) + value[at + 1:]


def part_at(value, path):
    """Return the part of a tuple at the path."""
    for at in path:
        value = value[at]
    return value


def paths(value):
    """Return the paths of all parts of a tuple, the tuple itself included."""
    found = [()]
    if isinstance(value, tuple):
        for at, part in enumerate(value):
            found.extend([(at,) + path for path in paths(part)])
    return found


def copied(value):
    """Return a separate copy, to see later whether the value was changed."""
    return copy.deepcopy(value)
