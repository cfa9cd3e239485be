"""The definitions of the document once more, by sets and by trying out, to compare the package with."""

import itertools

from fewreleases.systems import System
from tests.samples import NAMED, NEW, OLD, TITLED

LAX = (('id',), (), ('id', 'tag'))
LAX_NEW = (('id', 'tag'), (), ('id', 'tag'))
WIDER = (('id',), ('id',), ('id', 'tag'))
STRICT_NEW = (('id', 'tag'), ('id',), ('id', 'mark', 'tag'))

# Each change: (old format, new format, kind, words of its steps).
CHANGES = {
    'same': (OLD, OLD, 'free', ()),
    'switched': (LAX, LAX_NEW, 'free', ('switch',)),
    'read': (OLD, WIDER, 'free', ('read',)),
    'both': (LAX, STRICT_NEW, 'free', ('read', 'switch')),
    'reader': (OLD, NEW, 'reader first', ('read', 'switch')),
    'writer': (NEW, OLD, 'writer first', ('read', 'switch')),
    'split': (NAMED, TITLED, 'split', ('narrow', 'switch', 'widen')),
}
ORDERS = {
    'free': (),
    'reader first': (('read', 'switch'),),
    'writer first': (('switch', 'read'),),
    'split': (('switch', 'narrow'), ('widen', 'switch')),
}
TWELVE = tuple('abcdefghijkl')
WORDS = ('narrow', 'read', 'switch', 'widen')


def system_of(services, *rows):
    """Return the system with a channel for each row (name, sender, receiver, change)."""
    channels = [(name, sender, receiver, *CHANGES[change][:2]) for name, sender, receiver, change in rows]
    return System(tuple(services), tuple(sorted(channels)))


def one_channel_systems():
    """Return (change, sender, receiver, system) for a channel x of each change, also from a service to itself."""
    return [(change, sender, receiver, system_of('ab', ('x', sender, receiver, change)))
            for change in CHANGES for sender, receiver in itertools.product('ab', repeat=2)]


def two_channel_systems():
    """Return the systems with a channel x from a and a channel y, of all changes that have an order."""
    changes = ('both', 'reader', 'writer', 'split')
    return [system_of('ab', ('x', 'a', receiver, first), ('y', sender, other, second))
            for first in changes for second in changes for receiver in 'ab'
            for sender, other in itertools.product('ab', repeat=2)]


def four_kinds():
    """Return a system with a channel of each kind, one of them from a service to itself."""
    return system_of('abc', ('v', 'a', 'c', 'both'), ('w', 'c', 'c', 'reader'), ('x', 'a', 'b', 'split'),
                     ('y', 'b', 'a', 'writer'))


def big_system():
    """Return a system of 12 services and 40 channels, self-channels too, of all changes."""
    names = [first + second for first in 'abcd' for second in 'abcdefghij']
    changes = list(CHANGES)
    rows = [(name, TWELVE[at * 5 % 12], TWELVE[at * 7 % 11], changes[at % 7]) for at, name in enumerate(names)]
    return system_of(TWELVE, *rows)


def accepts(reading, written):
    """Say by sets whether a reader accepts fields."""
    return set(reading[0]) <= set(written) <= set(reading[1])


def kind(channel):
    """Return the kind of a channel."""
    old, new = channel[3:]
    fits = (accepts(old[1:], new[0]), accepts(new[1:], old[0]))
    return {(True, True): 'free', (False, True): 'reader first', (True, False): 'writer first',
            (False, False): 'split'}[fits]


def owners(system):
    """Return the dict of all steps with their owners."""
    found = {}
    for channel in system.channels:
        name, sender, receiver, old, new = channel
        if old[0] != new[0]:
            found[name, 'switch'] = sender
        if old[1:] != new[1:]:
            for word in ('widen', 'narrow') if kind(channel) == 'split' else ('read',):
                found[name, word] = receiver
    return found


def pairs(system):
    """Return the set of the order pairs."""
    return {((channel[0], first), (channel[0], second))
            for channel in system.channels for first, second in ORDERS[kind(channel)]}


def edges(system):
    """Return the set of the edges."""
    owner = owners(system)
    found = {(owner[first], owner[second]) for first, second in pairs(system)}
    return {(start, end) for start, end in found if start != end}


def written(channel, version):
    """Return the fields that a version of the sender writes."""
    return channel[4][0] if (channel[0], 'switch') in version else channel[3][0]


def reader(channel, version):
    """Return the reader that a version of the receiver uses."""
    name = channel[0]
    old, new = channel[3][1:], channel[4][1:]
    if (name, 'read') in version or (name, 'narrow') in version:
        return new
    if (name, 'widen') in version:
        needs = tuple(sorted(set(old[0]) & set(new[0])))
        return (needs, tuple(sorted(set(old[1]) | set(new[1]))))
    return old


def refused(system, running):
    """Return the names of the channels with a refusal, by a dict of the running versions of each service."""
    return [channel[0] for channel in system.channels
            if not all(accepts(reader(channel, reading), written(channel, writing))
                       for writing in running[channel[1]] for reading in running[channel[2]])]


def running(system, done, release=None):
    """Return a dict of the running versions of each service, each a set of the steps that it has done."""
    owner = owners(system)
    versions = {service: [{step for step in done if owner[step] == service}] for service in system.services}
    if release is not None:
        service, steps = release
        versions[service] = versions[service] + [versions[service][0] | set(steps)]
    return versions


def first_fault(system, plan):
    """Return the first release and the least channel with a refusal, or None."""
    done = []
    for index, release in enumerate(plan):
        names = refused(system, running(system, done, release))
        if names:
            return (index, min(names))
        done = done + list(release[1])
    return None


def keeps_order(system, plan):
    """Say whether each order pair has its first step in an earlier release than its second one."""
    at = {step: index for index, release in enumerate(plan) for step in release[1]}
    return all(at[first] < at[second] for first, second in pairs(system))


def some_of(values):
    """Return the list of all ascending tuples of some of these values."""
    values = sorted(values)
    return [some for size in range(len(values) + 1) for some in itertools.combinations(values, size)]


def all_plans(system):
    """Yield every plan of a small system."""
    yield from plans_over(owners(system))


def plans_over(owner):
    """Yield every tuple of releases that has each of these steps once, by a dict of their owners."""
    if not owner:
        yield ()
    for service in sorted(set(owner.values())):
        for steps in some_of(step for step in owner if owner[step] == service):
            if steps:
                rest = {step: owner[step] for step in owner if step not in steps}
                for plan in plans_over(rest):
                    yield ((service, steps),) + plan


def releases_of(plan, service):
    """Return how many releases of a plan are of this service."""
    return [release[0] for release in plan].count(service)


def all_cycles(system):
    """Return the list of all cycles of a small system."""
    found = edges(system)
    return [cycle for size in range(2, len(system.services) + 1)
            for cycle in itertools.permutations(system.services, size)
            if all(pair in found for pair in zip(cycle, cycle[1:] + cycle[:1]))]


def least_order(system, without):
    """Return the services not in without, by the words of the document."""
    found = edges(system)
    left = set(system.services) - set(without)
    order = []
    while left:
        order.append(min(end for end in left if not any((start, end) in found for start in left)))
        left.discard(order[-1])
    return tuple(order)
