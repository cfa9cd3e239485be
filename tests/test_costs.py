import itertools
import random
import unittest

from fewreleases.costs import cheapest_split, least_cost
from fewreleases.errors import BadCosts
from fewreleases.fewest import fewest_releases, fewest_split
from fewreleases.making import plan_with
from fewreleases.systems import System, exchanged
from tests import models, split_models
from tests.drawn import both_ways, drawn_costs, drawn_system, drawn_systems, graph, random_graphs, ring_of, small_graphs
from tests.models import TWELVE, big_system, one_channel_systems, system_of, two_channel_systems
from tests.samples import NEW, OLD, copied, nested, odd_values, part_at, paths, replaced, wraps


class CheapestTest(unittest.TestCase):

    def check(self, system, costs):
        before = copied(costs)
        split = cheapest_split(system, costs)
        self.assertEqual(split, split_models.cheapest_split(system, costs), (system.channels, costs))
        self.assertIs(split.__class__, tuple)
        prices = dict(costs)
        plan = plan_with(system, split)
        self.assertEqual(least_cost(system, costs), sum(prices[service] for service, steps in plan))
        self.assertEqual(costs, before)

    def check_drawn(self, system, source):
        for most in (1, 2, 4, 1000):
            self.check(system, drawn_costs(system, source, most))

    def test_small_systems(self):
        source = random.Random(41)
        for system in [row[3] for row in one_channel_systems()] + two_channel_systems() + small_graphs():
            self.check_drawn(system, source)

    def test_drawn_systems(self):
        source = random.Random(42)
        for system in drawn_systems(43, 150, 7, 14) + random_graphs()[::3]:
            self.check_drawn(system, source)

    def test_big_systems(self):
        source = random.Random(44)
        pairs = list(itertools.permutations(TWELVE, 2))
        crowded = [graph(TWELVE, source.sample(pairs, 40)) for time in range(4)]
        for system in [*crowded, big_system(), drawn_system(source, 12, 40)]:
            self.check_drawn(system, source)
            self.check(system, tuple((service, source.choice((1, 1000))) for service in TWELVE))
            costs = drawn_costs(system, source, 9)
            self.assertEqual(cheapest_split(exchanged(system), costs), cheapest_split(system, costs))
            self.assertEqual(least_cost(exchanged(system), costs), least_cost(system, costs))

    def test_all_safe_releases_one_behind_another(self):
        source = random.Random(45)
        systems = [*two_channel_systems()[::2], ring_of('abc'), ring_of('abcd')]
        systems += [system for system in drawn_systems(46, 80, 4, 5) if len(models.owners(system)) < 8]
        for system in systems:
            for most in (2, 1000):
                costs = drawn_costs(system, source, most)
                self.assertEqual(least_cost(system, costs), split_models.least_from(system, costs)(), system.channels)

    def test_equal_costs(self):
        for system in [*random_graphs()[::5], ring_of(TWELVE), both_ways('abcde'), big_system()]:
            for cost in (1, 7, 1000):
                costs = tuple((service, cost) for service in system.services)
                self.assertEqual(cheapest_split(system, costs), fewest_split(system))
                self.assertEqual(least_cost(system, costs), cost * fewest_releases(system))

    def test_rings(self):
        for size in range(2, 13):
            services = TWELVE[:size]
            for cheap in services:
                costs = tuple((service, 1 if service == cheap else 1000) for service in services)
                self.assertEqual(cheapest_split(ring_of(services), costs), (cheap,))
                self.assertEqual(least_cost(ring_of(services), costs), 1000 * (size - 1) + 2)

    def test_more_services_that_cost_less(self):
        system = graph('abcd', [('a', 'b'), ('b', 'a'), ('a', 'c'), ('c', 'a'), ('a', 'd'), ('d', 'a')])
        self.assertEqual(cheapest_split(system, (('a', 4), ('b', 1), ('c', 1), ('d', 1))), ('b', 'c', 'd'))
        self.assertEqual(least_cost(system, (('a', 4), ('b', 1), ('c', 1), ('d', 1))), 10)
        self.assertEqual(cheapest_split(system, (('a', 2), ('b', 1), ('c', 1), ('d', 1))), ('a',))

    def test_the_least_of_several(self):
        # Equal costs of unlike numbers of services: the first tuple, not the shortest one.
        system = graph('abc', [('a', 'c'), ('c', 'a'), ('b', 'c'), ('c', 'b')])
        self.assertEqual(cheapest_split(system, (('a', 1), ('b', 1), ('c', 2))), ('a', 'b'))
        system = graph('abc', [('a', 'b'), ('b', 'a'), ('a', 'c'), ('c', 'a')])
        self.assertEqual(cheapest_split(system, (('a', 2), ('b', 1), ('c', 1))), ('a',))

    def test_the_least_of_several_with_forced_services(self):
        rows = (('v', 'a', 'e', 'reader'), ('w', 'e', 'a', 'reader'), ('x', 'c', 'e', 'reader'),
                ('y', 'e', 'c', 'reader'))
        for service in 'bd':
            system = system_of('abcde', *rows, ('z', service, service, 'writer'))
            costs = (('a', 1), ('b', 5), ('c', 1), ('d', 5), ('e', 2))
            self.check(system, costs)
            self.assertEqual(cheapest_split(system, costs), tuple(sorted('ac' + service)))
            self.assertEqual(least_cost(system, costs), 4 + 2 + 2 * 5)

    def test_three_releases(self):
        system = system_of('ab', ('x', 'a', 'a', 'split'), ('y', 'a', 'b', 'reader'))
        self.assertEqual(cheapest_split(system, (('a', 5), ('b', 7))), ('a',))
        self.assertEqual(least_cost(system, (('a', 5), ('b', 7))), 22)

    def test_services_without_steps_cost_nothing(self):
        self.assertEqual(least_cost(System(('a',), ()), (('a', 9),)), 0)
        self.assertEqual(cheapest_split(System(('a',), ()), (('a', 9),)), ())
        system = system_of('abc', ('x', 'a', 'b', 'read'))
        self.assertEqual(least_cost(system, (('a', 100), ('b', 10), ('c', 1))), 10)

    def test_by_name_and_again(self):
        system = big_system()
        costs = drawn_costs(system, random.Random(47), 20)
        self.assertEqual(cheapest_split(costs=costs, system=system), cheapest_split(system, costs))
        self.assertEqual(least_cost(costs=costs, system=system), least_cost(system, costs))
        self.assertIs(least_cost(system, costs).__class__, int)
        self.assertEqual(system, big_system())


class BadCostsTest(unittest.TestCase):

    def check_bad(self, system, value):
        before = copied(value)
        for asked in (cheapest_split, least_cost):
            with self.assertRaises(BadCosts) as caught:
                asked(system, value)
            self.assertIs(caught.exception.value, value)
        self.assertEqual(value, before)

    def test_other_forms(self):
        system = ring_of('abc')
        a, b, c = good = (('a', 1), ('b', 1000), ('c', 5))
        self.assertEqual(cheapest_split(system, good), ('a',))
        for value in ((), (a,), (a, b), (b, c), (a, c), (a, b, c, c), (a, a, b, c), (a, b, b), (b, a, c), (c, b, a),
                      (a, b, c, ('d', 1)), (a, b, ('d', 1)), (a, b, ('C', 1)), (a, b, ('', 1)), list(good),
                      (a, b, list(c)), dict(good), (a, b, ('c',)), (a, b, ('c', 1, 1)), (a, b, 'c'), (a, b, 'c5'),
                      (a, b, 5), (1, 1000, 5), ('a', 'b', 'c'), (a, b, (5, 'c')), None, True, False, 0, 1, '', 'abc', [],
                      {}, (good,), (a, b, ()), (a, b, None), (('a', 1, 'b', 1000, 'c', 5),), good + good):
            with self.subTest(value=value):
                self.check_bad(system, value)

    def test_wrong_costs(self):
        for cost in (0, 1001, -1, -1000, 10 ** 30, True, False, None, '', '5', 'a', (), (5,), [5], {}, {5: 5}):
            with self.subTest(cost=cost):
                self.check_bad(ring_of('ab'), (('a', cost), ('b', 1)))
                self.check_bad(ring_of('ab'), (('a', 1), ('b', cost)))
                self.check_bad(System(('a',), ()), (('a', cost),))

    def test_any_value_at_any_depth(self):
        system = ring_of('ab')
        good = (('a', 5), ('b', 2))
        for path in paths(good):
            for value in odd_values():
                if path in ((0, 1), (1, 1)) and value.__class__ == int and value == 1:
                    self.assertEqual(least_cost(system, replaced(good, path, value)), {0: 4, 1: 7}[path[0]])
                else:
                    self.check_bad(system, replaced(good, path, value))
            if isinstance(part_at(good, path), tuple):
                self.check_bad(system, replaced(good, path, list(part_at(good, path))))
        for wrap in wraps()[:4]:
            for depth in range(1, 20):
                self.check_bad(system, nested(good, wrap, depth))


class ExamplesTest(unittest.TestCase):

    def test_ring(self):
        ring = System(('a', 'b'), (('x', 'a', 'b', OLD, NEW), ('y', 'b', 'a', OLD, NEW)))
        self.assertEqual([cheapest_split(ring, (('a', 5), ('b', 2))), least_cost(ring, (('a', 5), ('b', 2)))],
                         [('b',), 9])


if __name__ == '__main__':
    unittest.main()
