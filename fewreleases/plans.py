"""Releases and plans, and whether they lose messages."""

from fewreleases.moments import refusals_between
from fewreleases.names import is_some_of
from fewreleases.steps import all_steps, steps_of

BACKWARDS_WORDS = {"read": "read", "switch": "switch", "widen": "narrow", "narrow": "widen"}


def is_release(system, value):
    """Return whether any value is a release of the system."""
    if not isinstance(value, tuple) or len(value) != 2:
        return False
    service, steps = value
    if service not in system.services or steps == ():
        return False
    return is_some_of(steps_of(system, service), steps)


def is_plan(system, value):
    """Return whether any value is a plan of the system, safe or not."""
    if not isinstance(value, tuple) or not all([is_release(system, part) for part in value]):
        return False
    steps = [step for service, some in value for step in some]
    return tuple(sorted(steps)) == all_steps(system)


def first_fault(system, plan):
    """Return (index, name) of the first release and least channel that refuse a message, or None."""
    done = ()
    for index, release in enumerate(plan):
        behind = done + release[1]
        names = refusals_between(system, done, behind)
        if names:
            return (index, names[0])
        done = behind
    return None


def is_safe(system, plan):
    """Return whether the plan is safe."""
    return first_fault(system, plan) is None


def backwards(system, plan):
    """Return the plan of the exchanged system that takes the plan back."""
    return tuple([(service, backwards_steps(steps)) for service, steps in reversed(plan)])


def backwards_steps(steps):
    """Return the ascending tuple of the steps that take these steps back."""
    return tuple(sorted([(name, BACKWARDS_WORDS[word]) for name, word in steps]))
