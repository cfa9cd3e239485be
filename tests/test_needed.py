import itertools
import random
import unittest

from fewreleases.fewest import fewest_split
from fewreleases.needed import needed_cycles, shows_needed
from fewreleases.systems import System
from tests import models, split_models
from tests.drawn import both_ways, drawn_systems, graph, random_graphs, ring_of, small_graphs
from tests.models import TWELVE, all_cycles, big_system, one_channel_systems, some_of, system_of, two_channel_systems
from tests.samples import NEW, OLD, copied, nested, odd_values, part_at, paths, replaced, wraps


def needed_number(system):
    """Return how many services the split sets with fewest services have beside the forced ones."""
    return len(split_models.fewest_splits(system)[0]) - len(split_models.forced(system))


def hit_number(cycles):
    """Return by how many services these cycles are hit, going through all sets of services."""
    services = sorted(set(itertools.chain(*cycles)))
    return min(len(some) for some in some_of(services) if all(set(some) & set(cycle) for cycle in cycles))


def shows(system, cycles):
    """Say by the words of the document whether a tuple of cycles shows what is needed."""
    fixed = set(split_models.forced(system))
    if any(fixed & set(cycle) for cycle in cycles):
        return False
    return hit_number(cycles) >= needed_number(system)


class NeededCyclesTest(unittest.TestCase):

    def check(self, system):
        cycles = needed_cycles(system)
        self.assertIs(cycles.__class__, tuple)
        pairs = models.edges(system)
        for cycle in cycles:
            self.assertIs(cycle.__class__, tuple)
            self.assertGreaterEqual(len(cycle), 2)
            self.assertEqual(len(set(cycle)), len(cycle))
            self.assertLessEqual(set(zip(cycle, cycle[1:] + cycle[:1])), pairs)
        self.assertIs(shows(system, cycles), True, system.channels)
        self.assertIs(shows_needed(system, cycles), True)
        self.assertEqual(needed_cycles(system=system), cycles)

    def test_small_systems(self):
        systems = [row[3] for row in one_channel_systems()] + two_channel_systems() + small_graphs()
        for system in systems:
            self.check(system)

    def test_drawn_systems(self):
        for system in drawn_systems(31, 200, 8, 16) + random_graphs():
            self.check(system)

    def test_big_systems(self):
        source = random.Random(32)
        pairs = list(itertools.permutations(TWELVE, 2))
        for system in [big_system()] + [graph(TWELVE, source.sample(pairs, 40)) for time in range(8)]:
            self.check(system)

    def test_rings(self):
        for size in range(2, 13):
            system = ring_of(TWELVE[:size])
            self.check(system)
            self.assertNotEqual(needed_cycles(system), ())

    def test_all_edges_both_ways(self):
        for size in range(2, 7):
            self.check(both_ways(TWELVE[:size]))

    def test_no_cycle(self):
        for system in (System(('a',), ()), System(TWELVE, ()), graph('abc', [('a', 'b'), ('b', 'c'), ('a', 'c')])):
            self.assertEqual(needed_cycles(system), ())

    def test_forced_services_hit_every_cycle(self):
        system = system_of('abc', ('x', 'a', 'b', 'split'), ('y', 'c', 'b', 'reader'), ('z', 'b', 'c', 'reader'))
        self.assertEqual(needed_cycles(system), ())
        self.assertIs(shows_needed(system, ()), True)
        for cycle in all_cycles(system):
            self.assertIs(shows_needed(system, (cycle,)), False)

    def test_rings_side_by_side(self):
        pairs = [(start, end) for at in range(0, 12, 3)
                 for start, end in zip(TWELVE[at:at + 3], TWELVE[at + 1:at + 3] + TWELVE[at:at + 1])]
        system = graph(TWELVE, pairs)
        self.check(system)
        self.assertEqual(len(needed_cycles(system)), 4)
        rings = tuple(TWELVE[at:at + 3] for at in range(0, 12, 3))
        self.assertIs(shows_needed(system, rings), True)
        for at in range(4):
            self.assertIs(shows_needed(system, rings[:at] + rings[at + 1:]), False)

    def test_nothing_changes(self):
        system = big_system()
        needed_cycles(system)
        self.assertEqual(system, big_system())


class ShowsNeededTest(unittest.TestCase):

    def check(self, system, value, expected):
        before = copied(value)
        self.assertIs(shows_needed(system, value), expected, (system.channels, value))
        self.assertEqual(value, before)

    def test_all_tuples_of_cycles(self):
        for system in small_graphs()[::3] + two_channel_systems()[::5]:
            cycles = all_cycles(system)
            for size in range(3):
                for value in itertools.product(cycles, repeat=size):
                    self.check(system, value, shows(system, value))

    def test_some_tuples_of_cycles(self):
        source = random.Random(33)
        for system in drawn_systems(34, 80, 5, 12) + [both_ways('abcd'), both_ways('abcde')]:
            cycles = all_cycles(system)
            for size in range(1, 1 + min(8, len(cycles))):
                value = tuple(source.sample(cycles, size))
                self.check(system, value, shows(system, value))
            self.check(system, tuple(cycles), shows(system, cycles))

    def test_all_cycles_of_all_edges(self):
        system = both_ways('abcdef')
        cycles = tuple(all_cycles(system))
        self.check(system, cycles, True)
        self.check(system, tuple(cycle for cycle in cycles if 'a' not in cycle), False)
        pairs = tuple(itertools.combinations('abcdef', 2))
        self.check(system, pairs, True)
        self.check(system, pairs[:-1], False)
        self.check(system, pairs[1:], False)

    def test_a_cycle_twice(self):
        ring = ring_of('abc')
        self.check(ring, (('a', 'b', 'c'), ('a', 'b', 'c')), True)
        self.check(ring, (('a', 'b', 'c'), ('c', 'a', 'b'), ('b', 'c', 'a')), True)
        system = both_ways('abc')
        self.check(system, (('a', 'b'), ('a', 'b')), False)
        self.check(system, (('a', 'b'), ('b', 'a')), False)
        self.check(system, (('a', 'b'), ('b', 'c'), ('a', 'c'), ('a', 'c')), True)

    def test_more_cycles_than_needed(self):
        system = graph('abcd', [('a', 'b'), ('b', 'a'), ('c', 'a'), ('a', 'c')])
        self.check(system, (('a', 'b'), ('a', 'c')), True)
        self.check(system, (('a', 'b'),), True)
        self.check(system, (), False)

    def test_something_that_is_no_cycle(self):
        ring = ring_of('abc')
        good = ('a', 'b', 'c')
        for value in ((good, ()), (good, ('a',)), (good, ('a', 'c', 'b')), (good, ('a', 'b')), (good, list(good)),
                      (good, 'abc'), (good, None), (good, good + good), (good, ('a', 'b', 'd')), [good], [list(good)],
                      (list(good),), good, list(good), 'abc', {good: good}, {}, [], None, True, False, 0, 1, '',
                      ((good,),), ((good, good),), (True,), ((True, False),)):
            with self.subTest(value=value):
                self.check(ring, value, False)

    def test_a_cycle_with_a_forced_service(self):
        system = system_of('abcd', ('v', 'a', 'b', 'reader'), ('w', 'b', 'a', 'reader'), ('x', 'c', 'd', 'reader'),
                           ('y', 'd', 'c', 'reader'), ('z', 'd', 'd', 'writer'))
        self.check(system, (('a', 'b'),), True)
        self.check(system, (('a', 'b'), ('c', 'd')), False)
        self.check(system, (('c', 'd'),), False)

    def test_any_value_at_any_depth(self):
        system = both_ways('abc')
        good = (('a', 'b'), ('b', 'c'), ('c', 'a'))
        self.check(system, good, True)
        for path in paths(good):
            for value in odd_values():
                self.check(system, replaced(good, path, value), path == (0,) and value == ('b', 'a'))
            if isinstance(part_at(good, path), tuple):
                self.check(system, replaced(good, path, list(part_at(good, path))), False)
        for wrap in wraps()[:4]:
            for depth in range(1, 20):
                self.check(system, nested(good, wrap, depth), False)

    def test_by_name(self):
        self.assertIs(shows_needed(value=(), system=ring_of('ab')), False)
        self.assertIs(shows_needed(value=(), system=System(('a',), ())), True)

    def test_the_number_beside_the_forced_ones(self):
        for system in drawn_systems(35, 60, 6, 12):
            fixed = split_models.forced(system)
            number = len([service for service in fewest_split(system) if service not in fixed])
            self.check(system, (), number == 0)


class ExamplesTest(unittest.TestCase):

    def test_ring(self):
        ring = System(('a', 'b'), (('x', 'a', 'b', OLD, NEW), ('y', 'b', 'a', OLD, NEW)))
        self.assertEqual(
            [shows_needed(ring, needed_cycles(ring)), shows_needed(ring, ()), shows_needed(ring, (('a', 'b'), ('b', 'a')))],
            [True, False, True])


if __name__ == '__main__':
    unittest.main()
