"""Split sets: sets of services that include all forced services and hit every cycle.

All functions take the chains of the steps that are left to do, so that they
serve a whole system and a rollout alike.
"""

from fewreleases.graph import chain_edges, chain_forced, services_without
from fewreleases.steps import parts_of
from fewreleases.walks import circling, cycle_among, follower_lists


class Cycles:
    """The cycles without a forced service: the services in them, and those cycles that were met so far."""

    def __init__(self, services, chains):
        self.followers = follower_lists(services, chain_edges(chains))
        # Services in no such cycle can be left out of a set that hits all of them.
        self.loose = circling(self.followers, services_without(services, forced_services(chains)))
        self.met = []

    def all_hit(self, some):
        """Return whether these services hit every cycle; keep a cycle that they do not hit."""
        # Cycles that were met before spare most of the searches for another one.
        if not hits_all(some, self.met):
            return False
        cycle = cycle_among(self.followers, services_without(self.loose, some))
        if cycle is not None:
            self.met.append(cycle)
        return cycle is None


def hits_all(some, cycles):
    """Return whether some services hit each of these cycles."""
    for cycle in cycles:
        if not any([service in cycle for service in some]):
            return False
    return True


def longer(services, sets):
    """Return the list of these sets with one more of the services behind the last one, in all ways."""
    return [some + (service,) for some in sets for service in services if some == () or some[-1] < service]


def fewest_hitting(cycles):
    """Return the list of the sets of fewest services that hit all cycles.

    The cycles that were met then are not hit by fewer services: each smaller set missed one of them.
    """
    sets = [()]
    found = hitting(cycles, sets)
    while not found:
        sets = longer(cycles.loose, sets)
        found = hitting(cycles, sets)
    return found


def hitting(cycles, sets):
    """Return the list of those of the sets that hit all cycles."""
    return [some for some in sets if cycles.all_hit(some)]


def fewest_splits(services, chains):
    """Return the ascending list of the split sets with fewest services."""
    fixed = forced_services(chains)
    return sorted([joined(fixed, some) for some in fewest_hitting(Cycles(services, chains))])


def fewest_count(services, chains):
    """Return the fewest releases with which the steps of the chains can be done safely."""
    return len(owners_of(chains)) + len(fewest_splits(services, chains)[0]) + len(thrice_forced(chains))


def owners_of(chains):
    """Return the ascending tuple of the services that own steps of the chains."""
    return tuple(sorted({service for service, step in parts_of(chains)}))


def forced_services(chains):
    """Return the ascending tuple of the forced services."""
    return tuple([service for service, number in chain_forced(chains)])


def thrice_forced(chains):
    """Return the ascending tuple of the services that are forced to three releases."""
    return tuple([service for service, number in chain_forced(chains) if number == 3])


def joined(services, others):
    """Return the ascending tuple of all these services."""
    return tuple(sorted(services + others))
