"""The fewest releases, and the split sets with fewest services."""

from fewreleases.errors import NoNumber
from fewreleases.integers import is_between
from fewreleases.making import plan_with
from fewreleases.splits import fewest_count, fewest_splits
from fewreleases.steps import all_chains


def fewest_releases(system):
    """Return the fewest releases of a safe plan."""
    return fewest_count(system.services, all_chains(system))


def fewest_split(system):
    """Return the least split set of those with fewest services."""
    return splits_of(system)[0]


def fewest_plan(system):
    """Return a safe plan with the fewest releases."""
    return plan_with(system, fewest_split(system))


def count_splits(system):
    """Return how many split sets have fewest services."""
    return len(splits_of(system))


def split_at(system, number):
    """Return the split set of this number of those with fewest services."""
    found = splits_of(system)
    if not is_between(number, 0, len(found) - 1):
        raise NoNumber(number)
    return found[number]


def ever_split(system):
    """Return the services that are in some split set with fewest services."""
    found = splits_of(system)
    return tuple([service for service in system.services if any([service in split for split in found])])


def always_split(system):
    """Return the services that are in every split set with fewest services."""
    found = splits_of(system)
    return tuple([service for service in system.services if all([service in split for split in found])])


def splits_of(system):
    """Return the ascending list of the split sets with fewest services."""
    return fewest_splits(system.services, all_chains(system))
