import itertools
import unittest

from fewreleases.errors import HasCycle
from fewreleases.graph import edges, find_cycle, forced, is_cycle, safe_order
from fewreleases.plans import is_safe
from fewreleases.systems import System
from tests import models
from tests.drawn import graph, random_graphs, ring_of, small_graphs
from tests.models import (TWELVE, all_cycles, all_plans, big_system, one_channel_systems, releases_of, some_of,
                          system_of, two_channel_systems)
from tests.samples import NAMED, NEW, OLD, TITLED, copied, nested, odd_values, paths, replaced, wraps

def reaches_itself(system, without):
    """Say whether some service not in without is reached from itself along the edges, by another way than the package."""
    left = set(system.services) - set(without)
    reached = {(start, end) for start, end in models.edges(system) if start in left and end in left}
    for middle, start, end in itertools.product(sorted(left), repeat=3):
        if (start, middle) in reached and (middle, end) in reached:
            reached.add((start, end))
    return any((service, service) in reached for service in left)


class EdgesTest(unittest.TestCase):

    def test_one_channel_of_each_change(self):
        expected = {'reader': (('b', 'a'),), 'writer': (('a', 'b'),), 'split': (('a', 'b'), ('b', 'a'))}
        for change, sender, receiver, system in one_channel_systems():
            with self.subTest(change=change, sender=sender, receiver=receiver):
                found = expected.get(change, ()) if sender != receiver else ()
                if sender == 'b':
                    found = tuple(sorted((end, start) for start, end in found))
                self.assertEqual(edges(system), found)

    def test_each_edge_once(self):
        system = system_of('ab', ('w', 'a', 'b', 'writer'), ('x', 'a', 'b', 'writer'), ('y', 'b', 'a', 'reader'),
                           ('z', 'a', 'b', 'split'))
        self.assertEqual(edges(system), (('a', 'b'), ('b', 'a')))

    def test_against_the_model(self):
        for system in [*two_channel_systems(), big_system(), *random_graphs()]:
            self.assertEqual(edges(system), tuple(sorted(models.edges(system))))

    def test_graphs(self):
        for pairs in some_of(itertools.permutations('abc', 2)):
            self.assertEqual(edges(graph('abc', pairs)), pairs)

    def test_no_channels(self):
        self.assertEqual(edges(System(('a',), ())), ())
        self.assertEqual(edges(system=System(TWELVE, ())), ())

    def test_tuples(self):
        found = edges(big_system())
        self.assertIsInstance(found, tuple)
        self.assertEqual({pair.__class__ for pair in found}, {tuple})


class ForcedTest(unittest.TestCase):

    def test_one_channel_of_each_change(self):
        for change, sender, receiver, system in one_channel_systems():
            with self.subTest(change=change, sender=sender, receiver=receiver):
                own = sender == receiver
                number = {'split': 3 if own else 2, 'reader': 2 if own else 0, 'writer': 2 if own else 0}.get(change, 0)
                self.assertEqual(forced(system), ((receiver, number),) if number else ())

    def test_the_greatest_number(self):
        for first, second in itertools.permutations('xy'):
            system = system_of('ab', (first, 'a', 'a', 'split'), (second, 'b', 'a', 'split'), ('z', 'a', 'a', 'reader'))
            self.assertEqual(forced(system), (('a', 3),))
            system = system_of('ab', (first, 'a', 'a', 'writer'), (second, 'b', 'a', 'split'))
            self.assertEqual(forced(system), (('a', 2),))

    def test_several_services(self):
        system = system_of('abcde', ('v', 'e', 'd', 'split'), ('w', 'd', 'd', 'reader'), ('x', 'c', 'c', 'split'),
                           ('y', 'a', 'a', 'writer'), ('z', 'a', 'b', 'reader'))
        self.assertEqual(forced(system), (('a', 2), ('c', 3), ('d', 2)))
        self.assertEqual(forced(system=system), forced(system))

    def test_free_self_channels(self):
        system = system_of('a', ('w', 'a', 'a', 'same'), ('x', 'a', 'a', 'switched'), ('y', 'a', 'a', 'read'),
                           ('z', 'a', 'a', 'both'))
        self.assertEqual(forced(system), ())

    def test_no_channels(self):
        self.assertEqual(forced(System(TWELVE, ())), ())

    def test_the_fewest_releases_of_each_service_in_all_safe_plans(self):
        systems = [row[3] for row in one_channel_systems()] + two_channel_systems()
        for system in systems:
            if len(models.owners(system)) < 6:
                self.check_all_safe_plans(system)

    def check_all_safe_plans(self, system):
        plans = [plan for plan in all_plans(system) if is_safe(system, plan)]
        owners = set(models.owners(system).values())
        numbers = dict(forced(system))
        for service in system.services:
            fewest = min(releases_of(plan, service) for plan in plans)
            self.assertEqual(fewest, numbers.get(service, 1 if service in owners else 0), system.channels)
        once = any(max([releases_of(plan, service) for service in system.services]) < 2 for plan in plans)
        self.assertIs(once, forced(system) == () and find_cycle(system, ()) is None, system.channels)

    def test_a_safe_plan_without_a_second_release_on_rings(self):
        for pairs in some_of([('a', 'b'), ('b', 'c'), ('c', 'a')]):
            self.check_all_safe_plans(graph('abc', pairs))


class CycleTest(unittest.TestCase):

    def check_find(self, system, without):
        before = copied(without)
        cycle = find_cycle(system, without)
        self.assertEqual(without, before)
        self.assertEqual(cycle, find_cycle(system, without))
        if reaches_itself(system, without):
            self.assertIsInstance(cycle, tuple)
            self.assertIs(is_cycle(system, cycle), True)
            self.assertEqual(set(cycle) & set(without), set())
            self.check_is_cycle(system, cycle)
            with self.assertRaises(HasCycle) as caught:
                safe_order(system, without)
            self.assertIs(is_cycle(system, caught.exception.cycle), True)
            self.assertEqual(set(caught.exception.cycle) & set(without), set())
        else:
            self.assertIsNone(cycle)
            self.assertEqual(safe_order(system, without), models.least_order(system, without))

    def check_is_cycle(self, system, cycle):
        self.assertGreaterEqual(len(cycle), 2)
        self.assertEqual(len(set(cycle)), len(cycle))
        for pair in zip(cycle, cycle[1:] + cycle[:1]):
            self.assertIn(pair, models.edges(system))

    def test_all_graphs_of_three_services(self):
        for system in small_graphs():
            for without in some_of('abc'):
                self.check_find(system, without)

    def test_two_channel_systems(self):
        for system in two_channel_systems():
            for without in some_of('ab'):
                self.check_find(system, without)

    def test_random_graphs(self):
        for system in random_graphs():
            for without in [(), ('a',), ('b', 'd'), ('d', 'b', 'd'), system.services, system.services[::2]]:
                self.check_find(system, without)

    def test_without_repeated_and_in_any_order(self):
        system = graph('abcd', [('a', 'b'), ('b', 'a'), ('b', 'c'), ('c', 'b'), ('c', 'd'), ('d', 'c')])
        for without in itertools.product('abcd', repeat=3):
            self.check_find(system, without)
        self.assertIsNone(find_cycle(system, ('c', 'b', 'c')))
        self.assertEqual(sorted(find_cycle(system, ('b', 'b'))), ['c', 'd'])
        self.assertEqual(sorted(find_cycle(system, ('d', 'c', 'c'))), ['a', 'b'])

    def test_without_all_services(self):
        for system in (ring_of(TWELVE), big_system()):
            self.assertIsNone(find_cycle(system, TWELVE))
            self.assertIsNone(find_cycle(system, TWELVE[::-1] + TWELVE))
            self.assertEqual(safe_order(system, TWELVE[::-1] + TWELVE), ())

    def test_rings(self):
        for size in range(2, 13):
            services = TWELVE[:size]
            system = ring_of(services)
            cycle = find_cycle(system, ())
            at = services.index(cycle[0])
            self.assertEqual(cycle, services[at:] + services[:at])
            for turn in range(size):
                self.assertIs(is_cycle(system, services[turn:] + services[:turn]), True)
                self.assertIs(is_cycle(system, services[:turn]), False)
                self.assertIsNone(find_cycle(system, (services[turn],)))
                self.assertEqual(safe_order(system, (services[turn],)),
                                 models.least_order(system, (services[turn],)))
            self.assertIs(is_cycle(system, services[::-1]), size == 2)
            self.check_find(system, ())

    def test_a_cycle_that_is_not_reached_from_the_least_service(self):
        system = graph('abcde', [('a', 'b'), ('c', 'd'), ('d', 'e'), ('e', 'c'), ('a', 'c'), ('c', 'b')])
        self.assertEqual(sorted(find_cycle(system, ())), ['c', 'd', 'e'])
        self.assertEqual(safe_order(system, ('d',)), ('a', 'e', 'c', 'b'))

    def test_self_channels_make_no_cycle(self):
        for change in ('reader', 'writer', 'split'):
            system = system_of('ab', ('x', 'a', 'a', change), ('y', 'b', 'b', change))
            self.assertIsNone(find_cycle(system, ()))
            self.assertEqual(safe_order(system, ()), ('a', 'b'))
            self.assertIs(is_cycle(system, ('a',)), False)
            self.assertIs(is_cycle(system, ('a', 'a')), False)

    def test_big_system(self):
        system = big_system()
        for without in ((), ('a',), TWELVE[:6], TWELVE[3:], TWELVE[1::2], TWELVE[:10]):
            self.check_find(system, without)

    def test_by_name(self):
        system = ring_of(('a', 'b', 'c'))
        self.assertEqual(find_cycle(without=(), system=system), find_cycle(system, ()))
        self.assertEqual(safe_order(without=('a',), system=system), safe_order(system, ('a',)))
        self.assertIs(is_cycle(value=('a', 'b', 'c'), system=system), True)


class IsCycleTest(unittest.TestCase):

    def test_all_cycles_of_small_graphs(self):
        for system in small_graphs():
            cycles = all_cycles(system)
            for size in range(5):
                for value in itertools.product('abc', repeat=size):
                    self.assertIs(is_cycle(system, value), value in cycles)

    def test_services_twice(self):
        system = graph('abc', [('a', 'b'), ('b', 'a'), ('b', 'c'), ('c', 'b')])
        for value in (('a', 'b', 'c', 'b'), ('a', 'b', 'a', 'b'), ('a', 'b', 'a'), ('b', 'b'), ('a', 'a')):
            self.assertIs(is_cycle(system, value), False)
        self.assertIs(is_cycle(system, ('a', 'b')), True)
        self.assertIs(is_cycle(system, ('c', 'b')), True)

    def test_other_values(self):
        system = ring_of(('a', 'b'))
        for value in ((), ('a',), ['a', 'b'], 'ab', {'a': 'b', 'b': 'a'}, ('a', 'c'), ('c', 'd'), (('a', 'b'),),
                      (('a', 'b'), ('b', 'a')), ('a', 'b', None), ('a', ['b']), (['a'], ['b']), (True, False), (0, 1),
                      ('a', 'b', 'c'), None, True, 0, '', [], {}, ('a', 'b', ()), ('a', {}), ('a', 'b', ['a'])):
            with self.subTest(value=value):
                self.assertIs(is_cycle(system, value), False)

    def test_any_value_at_any_depth(self):
        system = ring_of(('a', 'b', 'c'))
        for path in paths(('a', 'b', 'c')):
            for at, value in enumerate(odd_values()):
                with self.subTest(path=path, at=at):
                    wrong = replaced(('a', 'b', 'c'), path, value)
                    before = copied(wrong)
                    self.assertIs(is_cycle(system, wrong), False)
                    self.assertEqual(wrong, before)

    def test_every_depth(self):
        system = ring_of(('a', 'b'))
        for wrap in wraps():
            for depth in range(1, 20 if wrap('a') != ('a', 'a') else 9):
                for inner in ('a', ('a', 'b')):
                    value = nested(inner, wrap, depth)
                    self.assertIs(is_cycle(system, value), False)
                    self.assertIs(is_cycle(system, ('a', value)), False)


class SafeOrderTest(unittest.TestCase):

    def test_no_edges(self):
        system = System(TWELVE, ())
        self.assertEqual(safe_order(system, ()), TWELVE)
        self.assertEqual(safe_order(system, ('c', 'a', 'c')), ('b',) + TWELVE[3:])

    def test_a_path_against_the_order_of_names(self):
        pairs = list(zip(TWELVE[1:], TWELVE))
        self.assertEqual(safe_order(graph(TWELVE, pairs), ()), TWELVE[::-1])

    def test_the_least_service_first(self):
        system = graph('abcd', [('d', 'a')])
        self.assertEqual(safe_order(system, ()), ('b', 'c', 'd', 'a'))
        system = graph('abcd', [('c', 'a'), ('d', 'b')])
        self.assertEqual(safe_order(system, ()), ('c', 'a', 'd', 'b'))
        self.assertEqual(safe_order(system, ('c',)), ('a', 'd', 'b'))

    def test_the_least_of_all_orders(self):
        for system in small_graphs():
            for without in some_of('abc'):
                left = [service for service in 'abc' if service not in without]
                orders = [order for order in itertools.permutations(left)
                          if all(order.index(start) < order.index(end) for start, end in models.edges(system)
                                 if start in order and end in order)]
                if orders:
                    self.assertEqual(safe_order(system, without), min(orders))
                else:
                    with self.assertRaises(HasCycle):
                        safe_order(system, without)

    def test_has_cycle_without_these_services(self):
        pairs = [('a', 'b'), ('b', 'a'), ('c', 'd'), ('d', 'c')]
        for without, left in ((('a',), 'cd'), (('d', 'd'), 'ab'), (('c', 'd'), 'ab')):
            with self.assertRaises(HasCycle) as caught:
                safe_order(graph('abcd', pairs), without)
            self.assertEqual(sorted(caught.exception.cycle), list(left))
        self.assertEqual(safe_order(graph('abcd', pairs), ('d', 'a')), ('b', 'c'))


class ExamplesTest(unittest.TestCase):

    def setUp(self):
        self.ring = System(('a', 'b'), (('x', 'a', 'b', OLD, NEW), ('y', 'b', 'a', OLD, NEW)))

    def test_edges_and_forced(self):
        title = System(('a', 'b'), (('z', 'a', 'b', NAMED, TITLED),))
        self.assertEqual([edges(title), forced(title)], [(('a', 'b'), ('b', 'a')), (('b', 2),)])

    def test_find_cycle_and_is_cycle(self):
        self.assertEqual(
            [find_cycle(self.ring, ('b',)), is_cycle(self.ring, ('b', 'a')), is_cycle(self.ring, ('a',))],
            [None, True, False])

    def test_safe_order(self):
        self.assertEqual(safe_order(self.ring, ('a',)), ('b',))


if __name__ == '__main__':
    unittest.main()
