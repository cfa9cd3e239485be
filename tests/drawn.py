"""Systems made from edges, and systems that are drawn, the same ones at each run."""

import itertools
import random

from fewreleases.systems import System
from tests import models
from tests.models import CHANGES, TWELVE, some_of, system_of


NAMES = [first + second for first in 'abcdefghijkl' for second in 'abcdefghijkl']


def graph(services, pairs):
    """Return a system that has these edges, by channels of both kinds that have an order."""
    rows = []
    for at, (start, end) in enumerate(sorted(pairs)):
        row = (end, start, 'reader') if at % 2 == 0 else (start, end, 'writer')
        rows.append((NAMES[at], *row))
    return system_of(services, *rows)


def ring_of(services):
    """Return a system whose only cycle leads through all services, in their order."""
    return graph(services, zip(services, services[1:] + services[:1]))


def small_graphs():
    """Return a system for each set of edges between three services."""
    pairs = list(itertools.permutations('abc', 2))
    return [graph('abc', some) for some in some_of(pairs)]


def random_graphs():
    """Return systems of more services, the same ones at each run."""
    source = random.Random(5)
    found = []
    for size in (4, 5, 6, 8, 12):
        services = TWELVE[:size]
        pairs = list(itertools.permutations(services, 2))
        for many in (size - 1, size, size + 3, min(2 * size, 40)):
            found.extend(graph(services, source.sample(pairs, min(many, len(pairs)))) for time in range(6))
    return found


def both_ways(services):
    """Return a system with an edge from each service to each other one."""
    return graph(services, itertools.permutations(services, 2))


def drawn_format(source):
    """Return a format over a few fields."""
    fields = ('id', 'mark', 'name', 'tag')
    knows = [field for field in fields if source.random() < 0.7]
    written = [field for field in knows if source.random() < 0.6]
    needs = [field for field in written if source.random() < 0.5]
    return (tuple(written), tuple(needs), tuple(knows))


def drawn_formats(source):
    """Return an old and a new format."""
    if source.random() < 0.3:
        return (drawn_format(source), drawn_format(source))
    return CHANGES[source.choice(list(CHANGES))][:2]


def drawn_system(source, size, many):
    """Return a system of so many services and channels."""
    services = TWELVE[:size]
    rows = [(name, source.choice(services), source.choice(services), *drawn_formats(source)) for name in NAMES[:many]]
    return System(services, tuple(rows))


def drawn_systems(seed, many, most_services, most_channels):
    """Return so many systems of different sizes."""
    source = random.Random(seed)
    return [drawn_system(source, source.randint(1, most_services), source.randint(0, most_channels))
            for time in range(many)]


def drawn_costs(system, source, most):
    """Return costs from 1 to most for the services of a system."""
    return tuple((service, source.randint(1, most)) for service in system.services)


def drawn_plan(system, source, safe):
    """Return a plan, safe or perhaps not, that does a few of the steps at a time."""
    owner = models.owners(system)
    pairs = models.pairs(system)
    left = sorted(owner)
    plan = []
    while left:
        free = [step for step in left if not safe or not any((other, step) in pairs for other in left)]
        service = owner[source.choice(free)]
        own = [step for step in free if owner[step] == service]
        steps = tuple(sorted(source.sample(own, source.randint(1, len(own)))))
        plan.append((service, steps))
        left = [step for step in left if step not in steps]
    return tuple(plan)
