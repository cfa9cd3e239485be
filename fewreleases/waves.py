"""Waves of releases that run at the same time."""

from fewreleases.errors import Fault
from fewreleases.names import is_ascending
from fewreleases.plans import first_fault, has_each_once, is_release_by
from fewreleases.steps import all_chains, order_pairs, steps_by_service


def fewest_waves(system):
    """Return the least number of waves of a wave plan."""
    # The steps of a chain must be in unlike waves, and no step must wait for steps outside its chain.
    return max([len(chain) for chain in all_chains(system)], default=0)


def wave_plan(system):
    """Return the wave plan in which each step is in the earliest wave."""
    chains = all_chains(system)
    return tuple([wave_at(system.services, chains, number) for number in range(fewest_waves(system))])


def wave_at(services, chains, number):
    """Return the wave that has, of each chain, the step of this number."""
    # A slice, because a chain may be too short to have that step.
    own = steps_by_service(services, [chain[number:number + 1] for chain in chains])
    return tuple([(service, own[service]) for service in services if own[service]])


def is_wave_plan(system, value):
    """Return whether any value is a wave plan of the system."""
    own = steps_by_service(system.services, all_chains(system))
    if not isinstance(value, tuple) or not all([is_wave_by(own, part) for part in value]):
        return False
    if not has_each_once(own, [release for wave in value for release in wave]):
        return False
    numbers = {step: number for number, wave in enumerate(value) for service, steps in wave for step in steps}
    return all([numbers[first] < numbers[second] for first, second in order_pairs(system)])


def is_wave_by(own, value):
    """Return whether any value is a wave, by a dict of the steps of each service."""
    if not isinstance(value, tuple) or value == ():
        return False
    return all([is_release_by(own, part) for part in value]) and is_ascending([release[0] for release in value])


def waves_of(system, plan):
    """Return the tuple of the least wave numbers of the releases of a safe plan."""
    fault = first_fault(system, plan)
    if fault is not None:
        index, name = fault
        raise Fault(index, name)
    before = {second: first for first, second in order_pairs(system)}
    step_waves = {}
    service_waves = {}
    found = []
    for service, steps in plan:
        earlier = [step_waves[before[step]] for step in steps if step in before]
        number = max(earlier + [service_waves.get(service, -1)]) + 1
        service_waves[service] = number
        for step in steps:
            step_waves[step] = number
        found.append(number)
    return tuple(found)
