"""The steps of a system, their owners, and the order in which they must be done.

A chain is a tuple of (service, step): steps of one channel with their owners,
each of which must be done in an earlier release than the next one. A step
that no order pair has is a chain of its own.
"""

from fewreleases.errors import NoService, NoStep
from fewreleases.systems import channel_kind

# The steps on a channel that must be done in this order, each in an earlier release than the next.
ORDERED_WORDS = {
    "reader first": ("read", "switch"),
    "writer first": ("switch", "read"),
    "split": ("widen", "switch", "narrow"),
}


def all_steps(system):
    """Return the ascending tuple of all steps."""
    return tuple(sorted([step for service, step in owned_steps(system)]))


def steps_of(system, service):
    """Return the ascending tuple of the steps that a service owns."""
    if service not in system.services:
        raise NoService(service)
    return tuple(sorted([step for owner, step in owned_steps(system) if owner == service]))


def owner_of(system, step):
    """Return the service that owns a step."""
    # Compared one by one, because the step may be a value that no dict takes as a key.
    for service, known in owned_steps(system):
        if known == step:
            return service
    raise NoStep(step)


def order_pairs(system):
    """Return the ascending tuple of all order pairs."""
    return tuple(sorted([(first[1], second[1]) for first, second in neighbours(all_chains(system))]))


def owned_steps(system):
    """Return the list of (service, step) for all steps with their owners."""
    return parts_of(all_chains(system))


def all_chains(system):
    """Return the list of all chains."""
    return [
        tuple([(word_owner(channel, word), (channel[0], word)) for word in words])
        for channel in system.channels
        for words in channel_words(channel)
    ]


def chains_left(chains, done):
    """Return the list of what is left of each chain with these steps done, perhaps nothing."""
    return [tuple([part for part in chain if part[1] not in done]) for chain in chains]


def steps_by_service(services, chains):
    """Return a dict that has, for each of the services, the ascending tuple of its steps of the chains."""
    parts = sorted(parts_of(chains))
    return {service: tuple([step for owner, step in parts if owner == service]) for service in services}


def parts_of(chains):
    """Return the list of the (service, step) of all these chains."""
    return [part for chain in chains for part in chain]


def neighbours(chains):
    """Return the list of the pairs of (service, step) that follow each other in a chain."""
    return [pair for chain in chains for pair in zip(chain, chain[1:])]


def channel_words(channel):
    """Return the list of the words of the steps of a channel, a tuple for each chain."""
    kind = channel_kind(channel)
    # Where not both readers accept both writings, neither the fields nor the readers are equal.
    if kind != "free":
        return [ORDERED_WORDS[kind]]
    old = channel[3]
    new = channel[4]
    switches = [("switch",)] if old[0] != new[0] else []
    reads = [("read",)] if old[1:] != new[1:] else []
    return switches + reads


def word_owner(channel, word):
    """Return the service that owns the step with this word on a channel."""
    return channel[1] if word == "switch" else channel[2]
