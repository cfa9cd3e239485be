"""The edges between services, forced services, cycles, and orders without a cycle."""

from fewreleases.errors import HasCycle
from fewreleases.steps import channel_pairs, word_owner
from fewreleases.systems import channel_kind


def edges(system):
    """Return the ascending tuple of all edges."""
    owners = [
        (word_owner(channel, first[1]), word_owner(channel, second[1]))
        for channel in system.channels
        for first, second in channel_pairs(channel)
    ]
    # One edge may come from several order pairs.
    return tuple(sorted({(start, end) for start, end in owners if start != end}))


def forced(system):
    """Return the ascending tuple of (service, number) for all services that need 2 or 3 releases."""
    numbers = {}
    for channel in system.channels:
        receiver = channel[2]
        numbers[receiver] = max(numbers.get(receiver, 1), needed_for(channel))
    return tuple([(service, numbers[service]) for service in system.services if numbers.get(service, 1) > 1])


def needed_for(channel):
    """Return how many releases the receiver of a channel needs for this channel alone."""
    kind = channel_kind(channel)
    own = channel[1] == channel[2]
    if kind == "split":
        return 3 if own else 2
    return 2 if own and kind != "free" else 1


def find_cycle(system, without):
    """Return a cycle that has none of the services in without, or None."""
    pairs = edges(system)
    left = never_ending(pairs, services_without(system, without))
    if not left:
        return None
    # Each service that is left has a follower that is left, so the walk must come back.
    walk = []
    service = left[0]
    while service not in walk:
        walk.append(service)
        service = followers(pairs, service, left)[0]
    return tuple(walk[walk.index(service):])


def is_cycle(system, value):
    """Return whether any value is a cycle of the system."""
    if not isinstance(value, tuple) or len(value) < 2:
        return False
    if not all([service in system.services for service in value]) or len(set(value)) != len(value):
        return False
    pairs = edges(system)
    return all([pair in pairs for pair in zip(value, value[1:] + value[:1])])


def safe_order(system, without):
    """Return the services that are not in without, each behind those from which an edge leads to it."""
    cycle = find_cycle(system, without)
    if cycle is not None:
        raise HasCycle(cycle)
    pairs = edges(system)
    left = services_without(system, without)
    order = []
    while left:
        free = [service for service in left if not leaders(pairs, service, left)]
        order.append(free[0])
        left.remove(free[0])
    return tuple(order)


def services_without(system, without):
    """Return the ascending list of the services that are not in without."""
    return [service for service in system.services if service not in without]


def followers(pairs, service, left):
    """Return the list of the services in left to which an edge leads from the service."""
    return [other for other in left if (service, other) in pairs]


def leaders(pairs, service, left):
    """Return the list of the services in left from which an edge leads to the service."""
    return [other for other in left if (other, service) in pairs]


def never_ending(pairs, services):
    """Return the list of the services from which a walk along the edges can go on and on."""
    left = services
    kept = [service for service in left if followers(pairs, service, left)]
    while len(kept) < len(left):
        left = kept
        kept = [service for service in left if followers(pairs, service, left)]
    return left
