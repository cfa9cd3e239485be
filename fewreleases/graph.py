"""The edges between services, forced services, cycles, and orders without a cycle."""

from fewreleases.errors import HasCycle
from fewreleases.steps import all_chains, neighbours
from fewreleases.walks import cycle_among, follower_lists, is_round, order_among


def edges(system):
    """Return the ascending tuple of all edges."""
    return chain_edges(all_chains(system))


def forced(system):
    """Return the ascending tuple of (service, number) for all services that need 2 or 3 releases."""
    return chain_forced(all_chains(system))


def find_cycle(system, without):
    """Return a cycle that has none of the services in without, or None."""
    return cycle_among(followers_of(system), services_without(system.services, without))


def is_cycle(system, value):
    """Return whether any value is a cycle of the system."""
    return is_round(followers_of(system), value)


def safe_order(system, without):
    """Return the services that are not in without, each behind those from which an edge leads to it."""
    return chain_order(system.services, all_chains(system), without)


def chain_edges(chains):
    """Return the ascending tuple of all edges that the chains make."""
    owners = [(first[0], second[0]) for first, second in neighbours(chains)]
    # One edge may come from several order pairs.
    return tuple(sorted({(start, end) for start, end in owners if start != end}))


def chain_forced(chains):
    """Return the ascending tuple of (service, number) for all services that the chains force to 2 or 3 releases."""
    numbers = {}
    for chain in chains:
        owners = [service for service, step in chain]
        for owner in owners:
            numbers[owner] = max(numbers.get(owner, 1), owners.count(owner))
    return tuple([(owner, numbers[owner]) for owner in sorted(numbers) if numbers[owner] > 1])


def chain_order(services, chains, without):
    """Return the order of safe_order for the edges that the chains make between these services."""
    followers = follower_lists(services, chain_edges(chains))
    left = services_without(services, without)
    cycle = cycle_among(followers, left)
    if cycle is not None:
        raise HasCycle(cycle)
    return order_among(followers, left)


def followers_of(system):
    """Return the dict of the followers of each service."""
    return follower_lists(system.services, edges(system))


def services_without(services, without):
    """Return the list of the services that are not in without."""
    return [service for service in services if service not in without]
