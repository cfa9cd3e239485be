import itertools
import random
import unittest

from fewreleases.errors import NoNumber
from fewreleases.fewest import (always_split, count_splits, ever_split, fewest_plan, fewest_releases, fewest_split,
                                split_at)
from fewreleases.making import plan_with
from fewreleases.plans import is_plan, is_safe
from fewreleases.systems import System, exchanged
from tests import models, split_models
from tests.drawn import both_ways, drawn_system, drawn_systems, graph, random_graphs, ring_of, small_graphs
from tests.models import CHANGES, TWELVE, all_plans, big_system, one_channel_systems, system_of, two_channel_systems
from tests.samples import NEW, OLD, copied, odd_values


def big_systems():
    """Return systems of twelve services and forty channels."""
    source = random.Random(21)
    pairs = list(itertools.permutations(TWELVE, 2))
    crowded = [graph(TWELVE, source.sample(pairs, 40)) for time in range(8)]
    return crowded + [drawn_system(source, 12, 40) for time in range(4)] + [big_system()]


class AgainstAllSetsTest(unittest.TestCase):

    def check(self, system):
        splits = split_models.fewest_splits(system)
        numbers = split_models.forced(system)
        owners = set(models.owners(system).values())
        self.assertEqual(fewest_split(system), splits[0])
        self.assertEqual(fewest_releases(system), len(owners) + len(splits[0]) + list(numbers.values()).count(3))
        self.assertEqual(count_splits(system), len(splits))
        self.assertEqual([split_at(system, number) for number in range(len(splits))], splits)
        self.assertEqual(ever_split(system), tuple(sorted(set().union(*splits))))
        self.assertEqual(always_split(system), tuple(sorted(set(system.services).intersection(*splits))))
        self.check_plan(system)

    def check_plan(self, system):
        plan = fewest_plan(system)
        self.assertEqual(plan, plan_with(system, fewest_split(system)))
        self.assertIs(is_plan(system, plan), True)
        self.assertIs(is_safe(system, plan), True)
        self.assertEqual(len(plan), fewest_releases(system))

    def test_one_channel(self):
        for change, sender, receiver, system in one_channel_systems():
            self.check(system)

    def test_two_channels(self):
        for system in two_channel_systems():
            self.check(system)

    def test_graphs(self):
        for system in small_graphs() + random_graphs():
            self.check(system)

    def test_drawn_systems(self):
        for system in drawn_systems(22, 250, 7, 14):
            self.check(system)

    def test_big_systems(self):
        for system in big_systems():
            self.check(system)
            self.assertEqual(fewest_split(exchanged(system)), fewest_split(system))

    def test_rings(self):
        for size in range(2, 13):
            system = ring_of(TWELVE[:size])
            self.check(system)
            self.assertEqual(fewest_releases(system), size + 1)
            self.assertEqual(fewest_split(system), ('a',))
            self.assertEqual(count_splits(system), size)
            self.assertEqual([split_at(system, number) for number in range(size)],
                             [(service,) for service in TWELVE[:size]])
            self.assertEqual(ever_split(system), TWELVE[:size])
            self.assertEqual(always_split(system), ())

    def test_all_edges_both_ways(self):
        for size in range(2, 7):
            services = TWELVE[:size]
            system = both_ways(services)
            self.check(system)
            self.assertEqual(fewest_split(system), services[:-1])
            self.assertEqual(fewest_releases(system), 2 * size - 1)
            self.assertEqual(count_splits(system), size)
            self.assertEqual(split_at(system, size - 1), services[1:])

    def test_rings_side_by_side(self):
        pairs = [(start, end) for first in range(0, 12, 2)
                 for start, end in (TWELVE[first:first + 2], TWELVE[first:first + 2][::-1])]
        system = graph(TWELVE, pairs)
        self.check(system)
        self.assertEqual(fewest_split(system), TWELVE[::2])
        self.assertEqual(count_splits(system), 64)
        self.assertEqual(split_at(system, 63), TWELVE[1::2])
        self.assertEqual(split_at(system, 1), ('a', 'c', 'e', 'g', 'i', 'l'))
        self.assertEqual((ever_split(system), always_split(system)), (TWELVE, ()))

    def test_rings_with_one_service_in_common(self):
        system = graph('abcde', [('a', 'c'), ('c', 'a'), ('c', 'b'), ('b', 'c'), ('c', 'd'), ('d', 'e'), ('e', 'c')])
        self.check(system)
        self.assertEqual((fewest_split(system), count_splits(system)), (('c',), 1))
        self.assertEqual((ever_split(system), always_split(system)), (('c',), ('c',)))

    def test_self_channels(self):
        for change in CHANGES:
            kind, words = CHANGES[change][2:]
            system = system_of('ab', ('x', 'a', 'a', change))
            self.check(system)
            number = {'free': min(len(words), 1), 'split': 3}.get(kind, 2)
            self.assertEqual(fewest_releases(system), number)
            self.assertEqual(fewest_split(system), ('a',) if kind != 'free' else ())

    def test_a_split_channel_to_itself_beside_others(self):
        system = system_of('ab', ('w', 'a', 'a', 'split'), ('x', 'b', 'a', 'split'), ('y', 'a', 'a', 'reader'))
        self.check(system)
        self.assertEqual(fewest_releases(system), 4)

    def test_chains_of_split_channels(self):
        for size in range(2, 13):
            services = TWELVE[:size]
            for order in (services, services[::-1]):
                rows = [(start + end, start, end, 'split') for start, end in zip(order, order[1:])]
                system = system_of(services, *rows)
                self.check(system)
                self.assertEqual(fewest_split(system), tuple(sorted(order[1:])))
                self.assertEqual(fewest_releases(system), 2 * size - 1)

    def test_forced_services_hit_cycles(self):
        ring = [('b', 'a', 'reader'), ('c', 'b', 'reader'), ('a', 'c', 'reader')]
        rows = [(name, *row) for name, row in zip('xyz', ring)]
        for service in 'abc':
            system = system_of('abc', *rows, ('w', service, service, 'writer'))
            self.check(system)
            self.assertEqual((fewest_split(system), count_splits(system)), ((service,), 1))
            self.assertEqual(always_split(system), (service,))

    def test_forced_services_between_others(self):
        system = system_of('abcd', ('w', 'a', 'd', 'reader'), ('x', 'd', 'a', 'reader'), ('y', 'b', 'b', 'writer'))
        self.check(system)
        self.assertEqual([split_at(system, number) for number in range(2)], [('a', 'b'), ('b', 'd')])
        self.assertEqual((ever_split(system), always_split(system)), (('a', 'b', 'd'), ('b',)))

    def test_no_order_pairs(self):
        system = system_of('abc', ('x', 'a', 'b', 'both'), ('y', 'b', 'a', 'read'), ('z', 'b', 'b', 'switched'))
        self.check(system)
        self.assertEqual((fewest_releases(system), fewest_split(system)), (2, ()))

    def test_no_steps_and_no_channels(self):
        for system in (System(('a',), ()), System(TWELVE, ()), system_of('ab', ('x', 'a', 'b', 'same'))):
            self.check(system)
            self.assertEqual((fewest_releases(system), fewest_split(system), fewest_plan(system)), (0, (), ()))
            self.assertEqual((count_splits(system), split_at(system, 0)), (1, ()))
            self.assertEqual((ever_split(system), always_split(system)), ((), ()))


class AgainstAllPlansTest(unittest.TestCase):

    def test_all_safe_plans(self):
        systems = [row[3] for row in one_channel_systems()]
        systems += [system for system in two_channel_systems() if len(models.owners(system)) < 6]
        for system in systems:
            lengths = [len(plan) for plan in all_plans(system) if models.first_fault(system, plan) is None]
            self.assertEqual(fewest_releases(system), min(lengths), system.channels)

    def test_all_safe_releases_one_behind_another(self):
        systems = two_channel_systems() + [ring_of('abc'), ring_of('abcd')]
        systems += [system for system in drawn_systems(23, 150, 4, 5) if len(models.owners(system)) < 9]
        for system in systems:
            self.assertEqual(fewest_releases(system), split_models.least_from(system)(), system.channels)


class SplitAtTest(unittest.TestCase):

    def check_no_number(self, system, value):
        before = copied(value)
        with self.assertRaises(NoNumber) as caught:
            split_at(system, value)
        self.assertIs(caught.exception.number, value)
        self.assertEqual(value, before)

    def test_no_such_number(self):
        for system, count in ((ring_of('ab'), 2), (ring_of(TWELVE), 12), (System(('a',), ()), 1)):
            for value in (-1, count, count + 1, -count, -count - 1, 10 ** 30, -10 ** 30, True, False, None, '', '0', '1',
                          'a', (), (0,), (1,), [], [0], {}, {0: 1}, {'a': 0}, ('a',)):
                with self.subTest(count=count, value=value):
                    self.check_no_number(system, value)

    def test_any_value(self):
        for value in odd_values():
            if value.__class__ != int or value not in (0, 1):
                self.check_no_number(ring_of('ab'), value)

    def test_the_first_and_the_last_number(self):
        system = both_ways('abcd')
        self.assertEqual(split_at(system, 0), ('a', 'b', 'c'))
        self.assertEqual(split_at(system, 3), ('b', 'c', 'd'))


class CallsTest(unittest.TestCase):

    def test_by_name_and_again(self):
        for system in (ring_of('abc'), big_system()):
            before = System(system.services, system.channels)
            for asked in (fewest_releases, fewest_split, fewest_plan, count_splits, ever_split, always_split):
                self.assertEqual(asked(system=system), asked(system))
            self.assertEqual(split_at(number=0, system=system), split_at(system, 0))
            self.assertEqual(system, before)

    def test_kinds_of_values(self):
        for system in (ring_of('abc'), System(('a',), ())):
            for asked in (fewest_split, fewest_plan, ever_split, always_split):
                self.assertIs(asked(system).__class__, tuple)
            self.assertIs(split_at(system, 0).__class__, tuple)
            self.assertIs(fewest_releases(system).__class__, int)
            self.assertIs(count_splits(system).__class__, int)


class ExamplesTest(unittest.TestCase):

    def setUp(self):
        self.ring = System(('a', 'b'), (('x', 'a', 'b', OLD, NEW), ('y', 'b', 'a', OLD, NEW)))

    def test_fewest(self):
        self.assertEqual([fewest_releases(self.ring), fewest_split(self.ring)], [3, ('a',)])

    def test_all_of_them(self):
        ring = self.ring
        self.assertEqual([count_splits(ring), split_at(ring, 1), ever_split(ring), always_split(ring)],
                         [2, ('b',), ('a', 'b'), ()])


if __name__ == '__main__':
    unittest.main()
