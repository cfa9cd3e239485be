"""Releases and plans, and whether they lose messages."""

from fewreleases.moments import least_refusal
from fewreleases.names import is_some_of
from fewreleases.steps import all_chains, steps_by_service

BACKWARDS_WORDS = {"read": "read", "switch": "switch", "widen": "narrow", "narrow": "widen"}


def is_release(system, value):
    """Return whether any value is a release of the system."""
    return is_release_by(steps_by_service(system.services, all_chains(system)), value)


def is_plan(system, value):
    """Return whether any value is a plan of the system, safe or not."""
    own = steps_by_service(system.services, all_chains(system))
    if not isinstance(value, tuple) or not all([is_release_by(own, part) for part in value]):
        return False
    return has_each_once(own, value)


def is_release_by(own, value):
    """Return whether any value is a release, by a dict of the steps of each service."""
    if not isinstance(value, tuple) or len(value) != 2:
        return False
    service, steps = value
    # Only a string is looked up in the dict: another value may be none that a dict takes as a key.
    if not isinstance(service, str) or service not in own or steps == ():
        return False
    return is_some_of(own[service], steps)


def has_each_once(own, releases):
    """Return whether the releases have each step exactly once, by a dict of the steps of each service."""
    wanted = sorted([step for service in own for step in own[service]])
    return sorted([step for service, steps in releases for step in steps]) == wanted


def first_fault(system, plan):
    """Return (index, name) of the first release and least channel that refuse a message, or None."""
    done = ()
    for index, (service, steps) in enumerate(plan):
        name = least_refusal(system, done, steps)
        if name is not None:
            return (index, name)
        done = done + steps
    return None


def is_safe(system, plan):
    """Return whether the plan is safe."""
    return first_fault(system, plan) is None


def backwards(system, plan):
    """Return the plan of the exchanged system that takes the plan back."""
    return tuple([(service, backwards_steps(steps)) for service, steps in reversed(plan)])


def backwards_steps(steps):
    """Return the ascending tuple of the steps that take these steps back."""
    return tuple(sorted([(name, BACKWARDS_WORDS[word]) for name, word in steps]))
