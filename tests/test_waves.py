import itertools
import random
import unittest

from fewreleases.errors import Fault
from fewreleases.fewest import fewest_plan
from fewreleases.making import plan_with
from fewreleases.plans import first_fault, is_safe
from fewreleases.systems import System, exchanged
from fewreleases.waves import fewest_waves, is_wave_plan, wave_plan, waves_of
from tests import models, split_models, wave_models
from tests.drawn import both_ways, drawn_plan, drawn_systems, ring_of
from tests.models import (CHANGES, TWELVE, all_plans, big_system, four_kinds, one_channel_systems, system_of,
                          two_channel_systems)
from tests.samples import NAMED, NEW, OLD, TITLED, copied, nested, odd_values, part_at, paths, replaced, wraps


def small_systems():
    """Return systems with few steps."""
    systems = [row[3] for row in one_channel_systems()] + two_channel_systems()
    systems += drawn_systems(51, 60, 4, 4)
    return [system for system in systems if len(models.owners(system)) < 6]


MIXED_WAVES = (
    (('a', (('v', 'switch'),)), ('b', (('x', 'widen'), ('y', 'switch'))), ('c', (('v', 'read'), ('w', 'read')))),
    (('a', (('x', 'switch'), ('y', 'read'))), ('c', (('w', 'switch'),))),
    (('b', (('x', 'narrow'),)),),
)


class FewestWavesTest(unittest.TestCase):

    def check(self, system):
        waves = wave_plan(system)
        self.assertEqual(fewest_waves(system), len(waves))
        self.assertLessEqual(len(waves), 3)
        self.assertIs(is_wave_plan(system, waves), True)
        self.assertIs(wave_models.keeps_messages(system, waves), True)
        pairs = models.pairs(system)
        for number, wave in enumerate(waves):
            for service, steps in wave:
                for step in steps:
                    self.assertEqual(number, self.number_of(step, pairs))

    def number_of(self, step, pairs):
        """Return how many steps precede a step, one behind another."""
        ahead = [first for first, second in pairs if second == step]
        return 1 + self.number_of(ahead[0], pairs) if ahead else 0

    def test_all_ways_of_small_systems(self):
        for system in small_systems():
            self.check(system)
            self.assertEqual(fewest_waves(system), wave_models.fewest_waves(system), system.channels)

    def test_larger_systems(self):
        for system in [*drawn_systems(52, 150, 12, 40), big_system(), ring_of(TWELVE), both_ways('abcdef')]:
            self.check(system)
            self.assertEqual(fewest_waves(exchanged(system)), fewest_waves(system))

    def test_each_kind(self):
        expected = {'same': 0, 'switched': 1, 'read': 1, 'both': 1, 'reader': 2, 'writer': 2, 'split': 3}
        self.assertEqual(set(expected), set(CHANGES))
        for change, sender, receiver, system in one_channel_systems():
            self.assertEqual(fewest_waves(system), expected[change])

    def test_no_steps(self):
        for system in (System(('a',), ()), System(TWELVE, ()), system_of('ab', ('x', 'a', 'b', 'same'))):
            self.assertEqual((fewest_waves(system), wave_plan(system)), (0, ()))
            self.assertIs(is_wave_plan(system, ()), True)
            self.assertIs(is_wave_plan(system, ((),)), False)

    def test_no_order_pairs(self):
        system = system_of('abc', ('x', 'b', 'a', 'both'), ('y', 'b', 'b', 'read'), ('z', 'a', 'b', 'switched'))
        self.assertEqual(fewest_waves(system), 1)
        self.assertEqual(wave_plan(system), (
            (('a', (('x', 'read'), ('z', 'switch'))), ('b', (('x', 'switch'), ('y', 'read')))),))

    def test_the_waves(self):
        self.assertEqual(wave_plan(four_kinds()), MIXED_WAVES)
        self.assertEqual(wave_plan(system_of('a', ('x', 'a', 'a', 'split'), ('y', 'a', 'a', 'writer'))), (
            (('a', (('x', 'widen'), ('y', 'switch'))),),
            (('a', (('x', 'switch'), ('y', 'read'))),),
            (('a', (('x', 'narrow'),)),)))

    def test_kinds_of_values(self):
        self.assertIs(fewest_waves(four_kinds()).__class__, int)
        for path in paths(wave_plan(four_kinds())):
            self.assertIn(part_at(wave_plan(four_kinds()), path).__class__, (tuple, str))

    def test_by_name_and_again(self):
        system = big_system()
        self.assertEqual(fewest_waves(system=system), fewest_waves(system))
        self.assertEqual(wave_plan(system=system), wave_plan(system))
        self.assertEqual(system, big_system())


class IsWavePlanTest(unittest.TestCase):

    def check(self, system, value, expected):
        before = copied(value)
        self.assertIs(is_wave_plan(system, value), expected, (system.channels, value))
        self.assertEqual(value, before)

    def test_all_ways(self):
        for system in small_systems():
            if len(models.owners(system)) < 5:
                for waves in wave_models.all_ways(system):
                    safe = wave_models.keeps_messages(system, waves)
                    self.assertIs(safe, wave_models.keeps_order(system, waves))
                    self.check(system, waves, safe)

    def test_some_ways_of_more_steps(self):
        for system in [four_kinds(), system_of('ab', ('x', 'a', 'b', 'split'), ('y', 'b', 'a', 'split'))]:
            for waves in itertools.islice(wave_models.all_ways(system), 0, 60000, 31):
                self.check(system, waves, wave_models.keeps_messages(system, waves))

    def test_each_release_in_a_wave_of_its_own(self):
        for system in [four_kinds(), big_system(), both_ways('abcd')]:
            plan = fewest_plan(system)
            self.check(system, tuple((release,) for release in plan), True)
            self.check(system, tuple((release,) for release in reversed(plan)), False)

    def test_waves_joined_exchanged_and_parted(self):
        system = four_kinds()
        first, second, third = MIXED_WAVES
        self.check(system, MIXED_WAVES, True)
        for order in itertools.permutations(MIXED_WAVES):
            self.check(system, order, order == MIXED_WAVES)
        self.check(system, (first, second + third), False)
        self.check(system, (wave_models.wave_of(system, [step for wave in (first, second) for release in wave
                                                         for step in release[1]]), third), False)
        self.check(system, (first[:1], first[1:], second, third), True)
        self.check(system, (first[1:], first[:1], second, third), True)
        self.check(system, (first, second[:1], third, second[1:]), True)
        self.check(system, (first, second[1:], second[:1], third), True)
        self.check(system, (first, second[1:], third, second[:1]), False)

    def test_a_release_moved(self):
        system = four_kinds()
        first, second, third = MIXED_WAVES
        self.check(system, (first[1:], tuple(sorted(first[:1] + second[1:])), second[:1], third), True)
        self.check(system, (first, second[:1], tuple(sorted(third + second[1:]))), True)
        self.check(system, (first, second[1:], tuple(sorted(second[:1] + third))), False)
        self.check(system, (first[:2], second + first[2:], third), False)

    def test_releases_removed_repeated_and_out_of_order(self):
        system = four_kinds()
        first, second, third = MIXED_WAVES
        self.check(system, (first, second), False)
        self.check(system, (second, third), False)
        self.check(system, (first[1:], second, third), False)
        self.check(system, (first, second, third, third), False)
        self.check(system, (first, first, second, third), False)
        self.check(system, (first + first[:1], second, third), False)
        self.check(system, (first[::-1], second, third), False)
        self.check(system, (first, second[::-1], third), False)
        self.check(system, (first, second, third, ()), False)
        self.check(system, ((), first, second, third), False)
        self.check(system, ((first, second, third),), False)
        self.check(system, first + second + third, False)
        self.check(system, first, False)

    def test_two_releases_of_one_service_in_a_wave(self):
        system = system_of('ab', ('x', 'a', 'b', 'both'), ('y', 'b', 'b', 'read'))
        a, b, c = ('a', (('x', 'switch'),)), ('b', (('x', 'read'),)), ('b', (('y', 'read'),))
        self.check(system, ((a, ('b', (('x', 'read'), ('y', 'read')))),), True)
        self.check(system, ((a, b, c),), False)
        self.check(system, ((b, c), (a,)), False)
        self.check(system, ((a, b), (c,)), True)
        self.check(system, ((b, a), (c,)), False)

    def test_releases_of_other_services(self):
        system = system_of('ab', ('x', 'a', 'b', 'both'))
        a, b = ('a', (('x', 'switch'),)), ('b', (('x', 'read'),))
        self.check(system, ((a, b),), True)
        for value in (((a, ('a', (('x', 'read'),))),), ((('b', (('x', 'switch'),)), b),), ((a, ('c', (('x', 'read'),))),),
                      ((a, ('b', (('x', 'widen'),))),), ((a, ('b', ())),), ((a, b, ('c', ())),), ((a, b, ()),)):
            self.check(system, value, False)

    def test_any_value_at_any_depth(self):
        system = four_kinds()
        for path in paths(MIXED_WAVES):
            for value in odd_values():
                self.check(system, replaced(MIXED_WAVES, path, value), False)
            if isinstance(part_at(MIXED_WAVES, path), tuple):
                self.check(system, replaced(MIXED_WAVES, path, list(part_at(MIXED_WAVES, path))), False)
        for wrap in wraps()[:4]:
            for depth in range(1, 17):
                for inner in (MIXED_WAVES, MIXED_WAVES[0], MIXED_WAVES[0][0], 'a', ()):
                    self.check(system, nested(inner, wrap, depth), False)
        for value in (None, True, False, 0, 1, '', 'a', [], {}, [()], [list(wave) for wave in MIXED_WAVES]):
            self.check(system, value, False)

    def test_by_name(self):
        self.assertIs(is_wave_plan(value=MIXED_WAVES, system=four_kinds()), True)


class WavesOfTest(unittest.TestCase):

    def check(self, system, plan):
        before = copied(plan)
        fault = models.first_fault(system, plan)
        if fault is not None:
            with self.assertRaises(Fault) as caught:
                waves_of(system, plan)
            self.assertEqual((caught.exception.index, caught.exception.name), fault)
            self.assertEqual(first_fault(system, plan), fault)
        else:
            numbers = waves_of(system, plan)
            self.assertIs(numbers.__class__, tuple)
            self.assertEqual(numbers, wave_models.wave_numbers(system, plan))
            self.check_put_into_waves(system, plan, numbers)
        self.assertEqual(plan, before)

    def check_put_into_waves(self, system, plan, numbers):
        waves = tuple(tuple(sorted(release for release, number in zip(plan, numbers) if number == wave))
                      for wave in range(max(numbers, default=-1) + 1))
        self.assertIs(is_wave_plan(system, waves), True, (system.channels, plan, numbers))

    def test_all_plans_of_small_systems(self):
        for system in small_systems():
            for plan in itertools.islice(all_plans(system), 0, None, 3):
                self.check(system, plan)

    def test_plans_of_larger_systems(self):
        source = random.Random(53)
        for system in [*drawn_systems(54, 60, 12, 40), big_system(), both_ways('abcdef'), ring_of(TWELVE)]:
            for plan in (fewest_plan(system), plan_with(system, system.services), drawn_plan(system, source, True),
                         drawn_plan(system, source, True), drawn_plan(system, source, False)):
                self.check(system, plan)

    def test_all_splits(self):
        for system in drawn_systems(55, 40, 5, 8):
            for split in split_models.split_sets(system):
                self.check(system, plan_with(system, split))

    def test_by_hand(self):
        system = four_kinds()
        plan = tuple(release for wave in MIXED_WAVES for release in wave)
        self.assertEqual(waves_of(system, plan), (0, 0, 0, 1, 1, 2))
        other = (plan[1], plan[0], plan[3], plan[5], plan[2], plan[4])
        self.assertIs(is_safe(system, other), True)
        self.assertEqual(waves_of(system, other), (0, 0, 1, 2, 0, 1))

    def test_releases_of_one_service_without_order_pairs(self):
        system = system_of('ab', ('w', 'a', 'b', 'both'), ('x', 'a', 'b', 'both'), ('y', 'a', 'b', 'both'))
        plan = tuple((service, ((name, word),)) for name in 'wxy' for service, word in (('b', 'read'), ('a', 'switch')))
        self.assertEqual(waves_of(system, plan), (0, 0, 1, 1, 2, 2))

    def test_the_empty_plan(self):
        self.assertEqual(waves_of(System(('a',), ()), ()), ())

    def test_by_name_and_again(self):
        ring = ring_of('abc')
        plan = fewest_plan(ring)
        self.assertEqual(waves_of(plan=plan, system=ring), waves_of(ring, plan))
        self.assertEqual(ring, ring_of('abc'))


class ExamplesTest(unittest.TestCase):

    def test_title(self):
        title = System(('a', 'b'), (('z', 'a', 'b', NAMED, TITLED),))
        self.assertEqual([fewest_waves(title), wave_plan(title), is_wave_plan(title, ())], [
            3, ((('b', (('z', 'widen'),)),), (('a', (('z', 'switch'),)),), (('b', (('z', 'narrow'),)),)), False])

    def test_ring(self):
        ring = System(('a', 'b'), (('x', 'a', 'b', OLD, NEW), ('y', 'b', 'a', OLD, NEW)))
        self.assertEqual(waves_of(ring, fewest_plan(ring)), (0, 1, 2))


if __name__ == '__main__':
    unittest.main()
