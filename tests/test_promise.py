"""What the document promises over the whole program, section 4, point by point."""

import itertools
import random
import unittest

from fewreleases.costs import cheapest_split, least_cost
from fewreleases.desk import Desk
from fewreleases.fewest import (always_split, count_splits, ever_split, fewest_plan, fewest_releases, fewest_split,
                                split_at)
from fewreleases.graph import find_cycle, forced
from fewreleases.making import plan_with
from fewreleases.moments import refusals_during
from fewreleases.needed import needed_cycles, shows_needed
from fewreleases.plans import backwards, first_fault, is_plan, is_safe
from fewreleases.rollout import Rollout
from fewreleases.steps import order_pairs
from fewreleases.systems import exchanged
from fewreleases.texts import read_plan, read_system, show_plan, show_system
from fewreleases.waves import fewest_waves, is_wave_plan, wave_plan, waves_of
from tests import models, split_models
from tests.drawn import both_ways, drawn_costs, drawn_plan, drawn_systems, ring_of
from tests.models import TWELVE, all_plans, big_system, one_channel_systems, releases_of, some_of, two_channel_systems


def small_systems():
    """Return systems with so few steps that all their plans can be looked at."""
    systems = [row[3] for row in one_channel_systems()] + two_channel_systems()[::3] + drawn_systems(101, 60, 3, 3)
    return [system for system in systems if len(models.owners(system)) < 6]


def larger_systems():
    """Return systems of all sizes."""
    return [*drawn_systems(102, 60, 12, 40), big_system(), ring_of(TWELVE), both_ways('abcdef')]


def keeps_pairs(system, plan):
    """Say whether the first step of each order pair is in an earlier release than the second one."""
    at = {step: index for index, release in enumerate(plan) for step in release[1]}
    return all(at[first] < at[second] for first, second in order_pairs(system))


class PromiseTest(unittest.TestCase):

    def test_a_safe_exactly_if_the_order_pairs_are_kept(self):
        source = random.Random(103)
        for system in small_systems():
            for plan in all_plans(system):
                self.assertIs(is_safe(system, plan), keeps_pairs(system, plan))
                self.assertEqual(first_fault(system, plan), models.first_fault(system, plan))
        for system in larger_systems():
            for safe in (True, False):
                plan = drawn_plan(system, source, safe)
                self.assertIs(is_safe(system, plan), keeps_pairs(system, plan))
                self.assertEqual(first_fault(system, plan), models.first_fault(system, plan))

    def test_b_no_service_twice(self):
        for system in small_systems():
            safe = [plan for plan in all_plans(system) if is_safe(system, plan)]
            once = any(all(releases_of(plan, service) < 2 for service in system.services) for plan in safe)
            self.assertIs(once, forced(system) == () and find_cycle(system, ()) is None)

    def test_c_a_plan_for_every_split_set(self):
        for system in larger_systems():
            splits = split_models.split_sets(system)
            self.assertIn(system.services, splits)
            three = [service for service, number in forced(system) if number == 3]
            for split in splits[::1 + len(splits) // 20]:
                plan = plan_with(system, split)
                self.assertIs(is_plan(system, plan) and is_safe(system, plan), True)
                for service in system.services:
                    most = 1 if service not in split else 3 if service in three else 2
                    self.assertLessEqual(releases_of(plan, service), most)

    def test_d_the_fewest_releases(self):
        for system in small_systems():
            self.assertEqual(fewest_releases(system), split_models.least_from(system)())
        for system in larger_systems():
            plan = fewest_plan(system)
            self.assertIs(is_safe(system, plan), True)
            self.assertEqual(len(plan), fewest_releases(system))
            self.assertIs(shows_needed(system, needed_cycles(system)), True)
            splits = split_models.fewest_splits(system)
            self.assertEqual([split_at(system, number) for number in range(count_splits(system))], splits)
            self.assertEqual(ever_split(system), tuple(sorted(set(itertools.chain(*splits)))))
            self.assertEqual(always_split(system),
                             tuple(service for service in system.services if all(service in some for some in splits)))

    def test_d_the_cheapest_plan(self):
        source = random.Random(104)
        for system in small_systems()[::2]:
            costs = drawn_costs(system, source, 5)
            self.assertEqual(least_cost(system, costs), split_models.least_from(system, costs)())
        for system in larger_systems():
            costs = drawn_costs(system, source, 1000)
            prices = dict(costs)
            plan = plan_with(system, cheapest_split(system, costs))
            self.assertEqual(sum(prices[service] for service, steps in plan), least_cost(system, costs))

    def test_e_backwards(self):
        source = random.Random(105)
        for system in small_systems():
            for plan in itertools.islice(all_plans(system), 0, None, 3):
                back = backwards(system, plan)
                self.assertIs(is_plan(exchanged(system), back), True)
                self.assertIs(is_safe(exchanged(system), back), is_safe(system, plan))
        for system in larger_systems():
            for plan in (fewest_plan(system), drawn_plan(system, source, True)):
                self.assertIs(is_safe(exchanged(system), backwards(system, plan)), True)

    def test_e_exchanged_systems(self):
        source = random.Random(106)
        for system in small_systems() + larger_systems():
            other = exchanged(system)
            costs = drawn_costs(system, source, 9)
            for asked in (fewest_releases, fewest_split, count_splits, ever_split, always_split, fewest_waves, forced):
                self.assertEqual(asked(other), asked(system))
            last = count_splits(system) - 1
            self.assertEqual(split_at(other, last), split_at(system, last))
            self.assertEqual(cheapest_split(other, costs), cheapest_split(system, costs))
            self.assertEqual(least_cost(other, costs), least_cost(system, costs))

    def test_f_three_waves_suffice(self):
        for system in small_systems() + larger_systems():
            self.assertLessEqual(fewest_waves(system), 3)
            self.assertIs(is_wave_plan(system, wave_plan(system)), True)
            self.assertLessEqual(fewest_waves(system), max(waves_of(system, fewest_plan(system)), default=-1) + 1)

    def test_g_safe_exactly_if_ready(self):
        source = random.Random(107)
        for system in small_systems()[::2] + drawn_systems(108, 30, 5, 8):
            rollout = Rollout(system)
            for release in drawn_plan(system, source, True):
                self.check_releases(rollout)
                rollout.release(*release)

    def check_releases(self, rollout):
        done = rollout.done_steps()
        for service in rollout.system.services:
            own = [step for step in rollout.left_steps() if models.owners(rollout.system)[step] == service]
            for steps in some_of(own[:6]):
                if steps:
                    refused = refusals_during(rollout.system, done, (service, steps))
                    self.assertIs(refused == (), set(steps) <= set(rollout.ready_steps(service)))

    def test_g_fewest_at_every_moment_and_undo(self):
        source = random.Random(109)
        for system in small_systems()[::2]:
            rollout, least = Rollout(system), split_models.least_from(system)
            for release in drawn_plan(system, source, True):
                before = (rollout.releases(), rollout.fewest_left(), rollout.finish())
                self.assertEqual(rollout.fewest_left(), least(rollout.done_steps()))
                rollout.release(*release)
                self.assertEqual(rollout.undo(), release)
                self.assertEqual((rollout.releases(), rollout.fewest_left(), rollout.finish()), before)
                rollout.release(*release)
            self.assertEqual(rollout.fewest_left(), 0)

    def test_h_texts_and_desk(self):
        source = random.Random(110)
        for system in small_systems()[::2] + larger_systems():
            plan = drawn_plan(system, source, False)
            self.assertEqual(read_system(show_system(system)), system)
            self.assertEqual(read_plan(system, show_plan(plan)), plan)
            desk = Desk(show_system(system))
            self.assertEqual(desk.say('fewest'), str(fewest_releases(system)))
            self.assertEqual(desk.say('split'), ' '.join(fewest_split(system)) or '-')
            self.assertEqual(desk.say('waves'), str(fewest_waves(system)))


if __name__ == '__main__':
    unittest.main()
