"""The cheapest plans for given costs of the releases of each service."""

from fewreleases.errors import BadCosts
from fewreleases.integers import is_between
from fewreleases.splits import Cycles, forced_services, grown, joined, owners_of, thrice_forced
from fewreleases.steps import all_chains

LEAST_COST = 1
GREATEST_COST = 1000


def cheapest_split(system, costs):
    """Return the split set with the least sum of costs, the least one of several."""
    check_costs(system, costs)
    return cheapest_of(system.services, all_chains(system), dict(costs))


def least_cost(system, costs):
    """Return the least cost of a safe plan."""
    check_costs(system, costs)
    chains = all_chains(system)
    prices = dict(costs)
    split = cheapest_of(system.services, chains, prices)
    # Each service that owns steps is released once, and again for each set that it is in.
    return sum([price_of(some, prices) for some in (owners_of(chains), split, thrice_forced(chains))])


def check_costs(system, costs):
    """Raise BadCosts if any value is not the costs of all services."""
    if not isinstance(costs, tuple) or len(costs) != len(system.services):
        raise BadCosts(costs)
    if not all([is_cost(service, part) for service, part in zip(system.services, costs)]):
        raise BadCosts(costs)


def is_cost(service, value):
    """Return whether any value is the service with its cost."""
    if not isinstance(value, tuple) or len(value) != 2:
        return False
    return value[0] == service and is_between(value[1], LEAST_COST, GREATEST_COST)


def price_of(services, prices):
    """Return the sum of the costs of these services."""
    return sum([prices[service] for service in services])


def cheapest_of(services, chains, prices):
    """Return the split set with the least sum of costs, the least one of several."""
    fixed = forced_services(chains)
    cycles = Cycles(services, chains)
    # All services hit every cycle, and what is found later costs less.
    best = (price_of(services, prices), services)
    sets = [()]
    while sets:
        missed = [cycles.missed_by(some) for some in sets]
        splits = [joined(fixed, some) for some, cycle in zip(sets, missed) if cycle is None]
        best = min([best] + [(price_of(split, prices), split) for split in splits])
        # More services cost more, so what costs too much already need not grow.
        sets = [some for some in grown(sets, missed) if price_of(fixed + some, prices) <= best[0]]
    return best[1]
