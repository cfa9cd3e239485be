"""Split sets, plans and fewest releases once more, by the words of the document and by trying out."""

import functools

from tests import models
from tests.models import some_of

WORDS_FIRST = {('reader first', 'read'), ('writer first', 'switch'), ('split', 'widen')}


def forced(system):
    """Return the dict of the forced services with their numbers."""
    numbers = {}
    for channel in system.channels:
        name, sender, receiver = channel[:3]
        kind = models.kind(channel)
        if kind == 'split' and sender == receiver:
            numbers[receiver] = 3
        elif kind == 'split' or (kind != 'free' and sender == receiver):
            numbers.setdefault(receiver, 2)
    return numbers


def split_sets(system):
    """Return all split sets, each as an ascending tuple, by the sets of services that have no cycle."""
    services = system.services
    followers = [0] * len(services)
    for start, end in models.edges(system):
        followers[services.index(start)] |= 1 << services.index(end)
    needed = sum(1 << services.index(service) for service in forced(system))
    quiet = [True]
    for mask in range(1, 1 << len(services)):
        # A set has no cycle if one of its services has no follower in it and the others have no cycle.
        quiet.append(any(mask >> at & 1 and not followers[at] & mask and quiet[mask ^ 1 << at]
                         for at in range(len(services))))
    return [chosen(services, mask) for mask in range(1 << len(services))
            if mask & needed == needed and quiet[(1 << len(services)) - 1 ^ mask]]


def chosen(services, mask):
    """Return the tuple of the services that a mask has."""
    return tuple(service for at, service in enumerate(services) if mask >> at & 1)


def fewest_splits(system):
    """Return the ascending list of the split sets with fewest services."""
    found = split_sets(system)
    least = min(map(len, found))
    return sorted(split for split in found if len(split) == least)


def cheapest_split(system, costs):
    """Return the least of the split sets with the least sum of costs."""
    prices = dict(costs)
    return min((sum(prices[service] for service in split), split) for split in split_sets(system))[1]


def plan_with(system, split):
    """Return the plan of section 11, release by release."""
    owner = models.owners(system)
    order = models.least_order(system, split)
    parts = {service: ([], [], []) for service in split}
    for channel in system.channels:
        name, sender, receiver = channel[:3]
        kind = models.kind(channel)
        for word in models.WORDS:
            step = (name, word)
            if owner.get(step) in parts:
                crosswise = (kind, word) == ('split', 'switch')
                early = (kind, word) in WORDS_FIRST or (crosswise and receiver < sender)
                middle = crosswise and receiver == sender
                parts[owner[step]][0 if early else 1 if middle else 2].append(step)
    releases = [(service, parts[service][0]) for service in sorted(split)]
    releases += [(service, [step for step in owner if owner[step] == service]) for service in order]
    releases += [(service, parts[service][1]) for service in sorted(split)]
    releases += [(service, parts[service][2]) for service in sorted(split)]
    return tuple((service, tuple(sorted(steps))) for service, steps in releases if steps)


def safe_releases(system, done):
    """Return all releases of steps that are not done during which no message is refused."""
    owner = models.owners(system)
    left = [step for step in owner if step not in done]
    found = [(service, steps) for service in system.services
             for steps in some_of(step for step in left if owner[step] == service) if steps]
    return [release for release in found if not models.refused(system, models.running(system, done, release))]


def least_from(system, costs=None):
    """Return a function that returns, for steps done, the least sum of costs of the releases of all that is left.

    Without costs each release counts one. It tries out all safe releases, so the system is small.
    """
    prices = dict(costs) if costs else {service: 1 for service in system.services}
    many = len(models.owners(system))

    @functools.cache
    def least(done):
        if len(done) == many:
            return 0
        return min(prices[service] + least(done | frozenset(steps)) for service, steps in safe_releases(system, done))

    return lambda done=(): least(frozenset(done))
