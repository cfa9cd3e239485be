"""Split sets: sets of services that include all forced services and hit every cycle.

All functions take the chains of the steps that are left to do, so that they
serve a whole system and a rollout alike.
"""

from fewreleases.graph import chain_edges, chain_forced, services_without
from fewreleases.steps import parts_of
from fewreleases.walks import cycle_among, follower_lists


class Cycles:
    """The cycles without a forced service; those that were met so far are kept."""

    def __init__(self, services, chains):
        self.followers = follower_lists(services, chain_edges(chains))
        self.loose = services_without(services, forced_services(chains))
        self.met = []

    def missed_by(self, some):
        """Return a cycle that these services do not hit, or None."""
        # Cycles that were met before spare most of the searches for another one.
        known = first_missed(some, self.met)
        if known is not None:
            return known
        cycle = cycle_among(self.followers, services_without(self.loose, some))
        if cycle is not None:
            self.met.append(cycle)
        return cycle


def first_missed(some, cycles):
    """Return the first of these cycles that some services do not hit, or None."""
    for cycle in cycles:
        if not any([service in cycle for service in some]):
            return cycle
    return None


def grown(sets, missed):
    """Return the ascending list of the sets with one more service, each one of the cycle that the set missed.

    A larger set that hits all cycles has a service of that cycle, so no other service need be tried. Sets that
    missed None do not grow.
    """
    pairs = [(some, cycle) for some, cycle in zip(sets, missed) if cycle is not None]
    return sorted({joined(some, (service,)) for some, cycle in pairs for service in cycle})


def fewest_hitting(cycles):
    """Return the ascending list of the sets of fewest services that hit all cycles.

    The cycles that were met then are not hit by fewer services: each smaller set missed one of them.
    """
    sets = [()]
    missed = [cycles.missed_by(())]
    while None not in missed:
        sets = grown(sets, missed)
        missed = [cycles.missed_by(some) for some in sets]
    return [some for some, cycle in zip(sets, missed) if cycle is None]


def fewest_splits(services, chains):
    """Return the ascending list of the split sets with fewest services."""
    fixed = forced_services(chains)
    return sorted([joined(fixed, some) for some in fewest_hitting(Cycles(services, chains))])


def fewest_count(services, chains):
    """Return the fewest releases with which the steps of the chains can be done safely."""
    return len(owners_of(chains)) + len(fewest_splits(services, chains)[0]) + len(thrice_forced(chains))


def owners_of(chains):
    """Return the ascending tuple of the services that own steps of the chains."""
    return tuple(sorted({service for service, step in parts_of(chains)}))


def forced_services(chains):
    """Return the ascending tuple of the forced services."""
    return tuple([service for service, number in chain_forced(chains)])


def thrice_forced(chains):
    """Return the ascending tuple of the services that are forced to three releases."""
    return tuple([service for service, number in chain_forced(chains) if number == 3])


def joined(services, others):
    """Return the ascending tuple of all these services."""
    return tuple(sorted(services + others))
