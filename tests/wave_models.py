"""Waves once more, by the words of the document and by trying out."""

import functools

from tests import models
from tests.models import some_of


def wave_of(system, steps):
    """Return the wave that has these steps."""
    owner = models.owners(system)
    found = [(service, tuple(sorted(step for step in steps if owner[step] == service))) for service in system.services]
    return tuple(release for release in found if release[1])


def running(system, done, wave):
    """Return the running versions of each service during a wave."""
    versions = models.running(system, done)
    for service, steps in wave:
        versions[service] = versions[service] + [versions[service][0] | set(steps)]
    return versions


def keeps_messages(system, waves):
    """Say whether no message is refused during any wave."""
    done = []
    for wave in waves:
        if models.refused(system, running(system, done, wave)):
            return False
        done = done + [step for service, steps in wave for step in steps]
    return True


def keeps_order(system, waves):
    """Say whether each order pair has its first step in an earlier wave than its second one."""
    at = {step: number for number, wave in enumerate(waves) for service, steps in wave for step in steps}
    return all(at[first] < at[second] for first, second in models.pairs(system))


def all_ways(system):
    """Yield every way to put the steps of a small system into waves, safe or not."""
    yield from ways_over(system, tuple(sorted(models.owners(system))))


def ways_over(system, left):
    """Yield every way to put these steps into waves."""
    if not left:
        yield ()
    for steps in some_of(left):
        if steps:
            for others in ways_over(system, tuple(step for step in left if step not in steps)):
                yield (wave_of(system, steps),) + others


def fewest_waves(system):
    """Return the least number of waves without a refused message, trying out all of them."""
    many = len(models.owners(system))

    @functools.cache
    def fewest(done):
        if len(done) == many:
            return 0
        left = [step for step in models.owners(system) if step not in done]
        waves = [steps for steps in some_of(left) if steps]
        safe = [steps for steps in waves if not models.refused(system, running(system, done, wave_of(system, steps)))]
        return 1 + min(fewest(done | frozenset(steps)) for steps in safe)

    return fewest(frozenset())


def wave_numbers(system, plan):
    """Return the wave numbers of the releases of a plan, by the words of the document."""
    pairs = models.pairs(system)
    numbers = []
    for at, (service, steps) in enumerate(plan):
        behind = [numbers[earlier] for earlier in range(at)
                  if plan[earlier][0] == service
                  or any((first, second) in pairs for first in plan[earlier][1] for second in steps)]
        numbers.append(max(behind, default=-1) + 1)
    return tuple(numbers)
