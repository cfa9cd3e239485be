import itertools
import random
import unittest

from fewreleases.errors import BadSplit, HasCycle, NotForced
from fewreleases.making import plan_with
from fewreleases.plans import is_plan, is_safe
from fewreleases.systems import System
from tests import models, split_models
from tests.drawn import both_ways, drawn_system, drawn_systems, graph, ring_of, small_graphs
from tests.models import (CHANGES, TWELVE, big_system, one_channel_systems, releases_of, some_of, system_of,
                          two_channel_systems)
from tests.samples import NAMED, NEW, OLD, TITLED, copied, nested, odd_values, paths, replaced, wraps


class PlanWithTest(unittest.TestCase):

    def check(self, system, split):
        plan = plan_with(system, split)
        self.assertEqual(plan, split_models.plan_with(system, split), (system.channels, split))
        self.assertIs(is_plan(system, plan), True)
        self.assertIs(is_safe(system, plan), True)
        self.assertIsNone(models.first_fault(system, plan))
        numbers = split_models.forced(system)
        for service in system.services:
            most = 1 if service not in split else 3 if numbers.get(service) == 3 else 2
            self.assertLessEqual(releases_of(plan, service), most)

    def check_all_splits(self, system):
        splits = split_models.split_sets(system)
        self.assertIn(system.services, splits)
        for split in splits:
            self.check(system, split)

    def test_one_channel(self):
        for change, sender, receiver, system in one_channel_systems():
            self.check_all_splits(system)

    def test_two_channels(self):
        for system in two_channel_systems():
            self.check_all_splits(system)

    def test_small_graphs(self):
        for system in small_graphs():
            self.check_all_splits(system)

    def test_split_channels_between_three_services(self):
        for first, second in itertools.product(itertools.product('abc', repeat=2), repeat=2):
            self.check_all_splits(system_of('abc', ('x', *first, 'split'), ('y', *second, 'split')))

    def test_drawn_systems(self):
        for system in drawn_systems(11, 150, 6, 10):
            self.check_all_splits(system)

    def test_big_systems(self):
        source = random.Random(12)
        for system in [big_system(), drawn_system(source, 12, 40), drawn_system(source, 12, 40), ring_of(TWELVE)]:
            splits = split_models.split_sets(system)
            for split in [min(splits, key=len), system.services, *source.sample(splits, min(len(splits), 30))]:
                self.check(system, split)

    def test_rings(self):
        for size in range(2, 8):
            services = TWELVE[:size]
            self.check_all_splits(ring_of(services))
            self.check_all_splits(both_ways(services[:5]))

    def test_no_steps(self):
        self.assertEqual(plan_with(System(('a',), ()), ()), ())
        self.assertEqual(plan_with(System(('a',), ()), ('a',)), ())
        self.assertEqual(plan_with(system_of('ab', ('x', 'a', 'b', 'same')), ('a', 'b')), ())

    def test_nothing_is_split(self):
        system = system_of('abc', ('x', 'b', 'a', 'writer'), ('y', 'c', 'b', 'writer'), ('z', 'c', 'a', 'both'))
        self.assertEqual(plan_with(system, ()), (
            ('c', (('y', 'switch'), ('z', 'switch'))),
            ('b', (('x', 'switch'), ('y', 'read'))),
            ('a', (('x', 'read'), ('z', 'read')))))

    def test_split_channels_to_a_lesser_and_a_greater_service(self):
        system = system_of('ab', ('x', 'a', 'b', 'split'), ('y', 'b', 'a', 'split'))
        self.assertEqual(plan_with(system, ('a', 'b')), (
            ('a', (('y', 'widen'),)),
            ('b', (('x', 'widen'), ('y', 'switch'))),
            ('a', (('x', 'switch'), ('y', 'narrow'))),
            ('b', (('x', 'narrow'),))))

    def test_self_channels_of_each_kind(self):
        read, switch = ('x', 'read'), ('x', 'switch')
        expected = {
            'same': (), 'switched': (('a', (switch,)),), 'read': (('a', (read,)),), 'both': (('a', (read, switch)),),
            'reader': (('a', (read,)), ('a', (switch,))), 'writer': (('a', (switch,)), ('a', (read,))),
            'split': (('a', (('x', 'widen'),)), ('a', (switch,)), ('a', (('x', 'narrow'),))),
        }
        for change in CHANGES:
            self.assertEqual(plan_with(system_of('a', ('x', 'a', 'a', change)), ('a',)), expected[change])

    def test_all_rounds_in_their_order(self):
        system = system_of('abcd', ('u', 'd', 'b', 'reader'), ('v', 'c', 'd', 'writer'), ('w', 'a', 'a', 'split'),
                           ('x', 'c', 'c', 'split'), ('y', 'c', 'a', 'split'), ('z', 'b', 'd', 'read'))
        self.assertEqual(plan_with(system, ('a', 'c')), (
            ('a', (('w', 'widen'), ('y', 'widen'))),
            ('c', (('v', 'switch'), ('x', 'widen'), ('y', 'switch'))),
            ('b', (('u', 'read'),)),
            ('d', (('u', 'switch'), ('v', 'read'), ('z', 'read'))),
            ('a', (('w', 'switch'),)),
            ('c', (('x', 'switch'),)),
            ('a', (('w', 'narrow'), ('y', 'narrow'))),
            ('c', (('x', 'narrow'),))))

    def test_nothing_changes(self):
        system = big_system()
        split = split_models.fewest_splits(system)[0]
        before = copied(split)
        plan = plan_with(system, split)
        self.assertEqual(plan_with(split=split, system=system), plan)
        self.assertEqual(split, before)
        self.assertEqual(system, big_system())


class WrongSplitTest(unittest.TestCase):

    def check_bad(self, system, value):
        before = copied(value)
        with self.assertRaises(BadSplit) as caught:
            plan_with(system, value)
        self.assertIs(caught.exception.value, value)
        self.assertEqual(value, before)

    def test_bad_splits(self):
        # The forced services and the cycles are missing, too, but the value is looked at first.
        system = system_of('abc', ('w', 'a', 'a', 'split'), ('x', 'b', 'c', 'reader'), ('y', 'c', 'b', 'reader'))
        for value in (['a', 'b'], ('b', 'a'), ('a', 'a'), ('a', 'b', 'b'), ('d',), ('a', 'd'), ('A',), ('',), 'a', 'abc',
                      '', [], {}, {'a': 'b'}, None, True, False, 0, 1, (True,), (None,), ('a', None), ('a', 0),
                      (('a',),), (('a', 'b'),), ('a', ('b',)), (['a'],), ({},), ('a', ['b']), ((),), ('a', 'b', ())):
            with self.subTest(value=value):
                self.check_bad(system, value)

    def test_any_value_at_any_depth(self):
        system = both_ways('abc')
        for value in odd_values():
            for path in paths(('a', 'b')):
                self.check_bad(system, replaced(('a', 'b'), path, value))
        for wrap in wraps()[:4]:
            for depth in range(1, 21):
                for inner in ('d', ('a', 'b'), []):
                    self.check_bad(system, nested(inner, wrap, depth))

    def test_all_tuples_of_services(self):
        system = graph('abc', ())
        for size in range(5):
            for value in itertools.product('abc', repeat=size):
                if value in some_of('abc'):
                    self.assertEqual(plan_with(system, value), ())
                else:
                    self.check_bad(system, value)

    def test_the_least_forced_service_that_is_missing(self):
        system = system_of('abcde', ('u', 'a', 'b', 'reader'), ('v', 'b', 'a', 'reader'), ('w', 'c', 'c', 'writer'),
                           ('x', 'c', 'd', 'split'), ('y', 'e', 'e', 'split'))
        for split in some_of('abcde'):
            missing = [service for service in 'cde' if service not in split]
            if missing:
                with self.assertRaises(NotForced) as caught:
                    plan_with(system, split)
                self.assertEqual(caught.exception.service, missing[0])
            elif 'a' not in split and 'b' not in split:
                with self.assertRaises(HasCycle) as caught:
                    plan_with(system, split)
                self.assertEqual(sorted(caught.exception.cycle), ['a', 'b'])
            else:
                self.assertIs(is_safe(system, plan_with(system, split)), True)

    def test_errors_of_all_sets(self):
        for system in drawn_systems(13, 60, 5, 8) + two_channel_systems():
            fitting = split_models.split_sets(system)
            for split in some_of(system.services):
                if split not in fitting:
                    self.check_not_fitting(system, split)

    def check_not_fitting(self, system, split):
        missing = [service for service in sorted(split_models.forced(system)) if service not in split]
        with self.assertRaises((NotForced, HasCycle)) as caught:
            plan_with(system, split)
        if missing:
            self.assertEqual(caught.exception.service, missing[0])
        else:
            cycle = caught.exception.cycle
            self.assertIsInstance(cycle, tuple)
            self.assertIn(cycle, models.all_cycles(system))
            self.assertEqual(set(cycle) & set(split), set())


class ExamplesTest(unittest.TestCase):

    def test_ring(self):
        ring = System(('a', 'b'), (('x', 'a', 'b', OLD, NEW), ('y', 'b', 'a', OLD, NEW)))
        self.assertEqual(plan_with(ring, ('a',)), (
            ('a', (('y', 'read'),)), ('b', (('x', 'read'), ('y', 'switch'))), ('a', (('x', 'switch'),))))

    def test_title(self):
        title = System(('a', 'b'), (('z', 'a', 'b', NAMED, TITLED),))
        with self.assertRaises(NotForced) as caught:
            plan_with(title, ('a',))
        self.assertEqual(caught.exception.service, 'b')


if __name__ == '__main__':
    unittest.main()
