"""Cycles that show that fewer services than those of a split set with fewest services do not suffice."""

from fewreleases.splits import Cycles, fewest_hitting, first_missed, grown
from fewreleases.steps import all_chains
from fewreleases.walks import is_round


def needed_cycles(system):
    """Return cycles without forced services that fewer services than needed do not hit."""
    cycles = Cycles(system.services, all_chains(system))
    fewest_hitting(cycles)
    return tuple(cycles.met)


def shows_needed(system, value):
    """Return whether any value is a tuple of such cycles."""
    cycles = Cycles(system.services, all_chains(system))
    if not isinstance(value, tuple) or not all([is_loose_round(cycles, part) for part in value]):
        return False
    many = len(fewest_hitting(cycles)[0])
    return not can_hit(value, many - 1)


def is_loose_round(cycles, value):
    """Return whether any value is a cycle without a forced service."""
    return is_round(cycles.followers, value) and all([service in cycles.loose for service in value])


def can_hit(cycles, many):
    """Return whether so many services, or fewer, can hit each of these cycles."""
    sets = [()]
    for size in range(many + 1):
        missed = [first_missed(some, cycles) for some in sets]
        if None in missed:
            return True
        sets = grown(sets, missed)
    return False
