import itertools
import unittest

from fewreleases.plans import backwards, first_fault, is_plan, is_release, is_safe
from fewreleases.systems import System, exchanged
from tests import models
from tests.models import TWELVE, all_plans, big_system, one_channel_systems, some_of, system_of, two_channel_systems
from tests.samples import NAMED, NEW, OLD, TITLED, copied, nested, odd_values, part_at, paths, replaced, wraps


def mixed():
    """Return a system with a channel of each kind, one of them from a service to itself."""
    return system_of('abc', ('w', 'c', 'c', 'reader'), ('x', 'a', 'b', 'split'), ('y', 'b', 'a', 'writer'))


MIXED_PLAN = (
    ('b', (('x', 'widen'), ('y', 'switch'))),
    ('a', (('x', 'switch'), ('y', 'read'))),
    ('b', (('x', 'narrow'),)),
    ('c', (('w', 'read'),)),
    ('c', (('w', 'switch'),)),
)


def single_steps(system, order):
    """Return the plan that has a release for each of these steps, in this order."""
    owners = models.owners(system)
    return tuple((owners[step], (step,)) for step in order)


def safe_single_steps(system):
    """Return a safe plan with a release for each step: one always comes next that no step left must precede."""
    pairs = models.pairs(system)
    left = sorted(models.owners(system))
    order = []
    while left:
        free = [step for step in left if not any((other, step) in pairs for other in left)]
        order.append(free[-1])
        left.remove(free[-1])
    return single_steps(system, order)


class IsReleaseTest(unittest.TestCase):

    def test_every_release(self):
        system = mixed()
        owners = models.owners(system)
        for service in 'abc':
            for steps in some_of(owners):
                fits = steps != () and all(owners[step] == service for step in steps)
                self.assertIs(is_release(system, (service, steps)), fits)

    def test_wrong_releases(self):
        system = mixed()
        good = ('b', (('x', 'narrow'), ('x', 'widen'), ('y', 'switch')))
        self.assertIs(is_release(system, good), True)
        service, steps = good
        for value in (('b', ()), ('b',), (service, steps, ()), (service, *steps), list(good), (service, list(steps)),
                      (service, tuple(list(step) for step in steps)), ('a', steps), ('d', steps), ('', steps),
                      (('b',), steps), (['b'], steps), (None, steps), (True, steps), (steps, service),
                      (service, steps[::-1]), (service, steps[:1] * 2), (service, (steps[0], steps[0], steps[1])),
                      (service, steps + steps[:1]), (service, ('x', 'widen')), (service, (('x', 'read'),)),
                      (service, (('x', 'switch'),)), (service, (('x', 'narrow'), ('x', 'switch'))),
                      (service, (('z', 'read'),)), (service, None), (service, ''), (service, {}), (service, 'x'),
                      (service, []), (service, {('x', 'widen'): True}), (), 'b', {}, None, 0, True, {service: steps}):
            with self.subTest(value=value):
                self.assertIs(is_release(system, value), False)

    def test_every_order(self):
        steps = (('x', 'narrow'), ('x', 'widen'), ('y', 'switch'))
        for order in itertools.permutations(steps):
            self.assertIs(is_release(mixed(), ('b', order)), order == steps)

    def test_a_system_without_steps(self):
        system = System(('a',), ())
        self.assertIs(is_release(system, ('a', ())), False)
        self.assertIs(is_release(system, ('a', (('x', 'read'),))), False)

    def test_any_value_at_any_depth(self):
        release = MIXED_PLAN[0]
        for path in paths(release):
            for at, value in enumerate(odd_values()):
                with self.subTest(path=path, at=at):
                    wrong = replaced(release, path, value)
                    before = copied(wrong)
                    self.assertIs(is_release(mixed(), wrong), False)
                    self.assertEqual(wrong, before)

    def test_every_depth(self):
        for wrap in wraps()[:4]:
            for depth in range(1, 21):
                for inner in ('b', MIXED_PLAN[0], MIXED_PLAN):
                    self.assertIs(is_release(mixed(), nested(inner, wrap, depth)), False)

    def test_by_name(self):
        self.assertIs(is_release(value=MIXED_PLAN[0], system=mixed()), True)


class IsPlanTest(unittest.TestCase):

    def test_every_plan_of_small_systems(self):
        for change, sender, receiver, system in one_channel_systems():
            for plan in all_plans(system):
                self.assertIs(is_plan(system, plan), True)
                self.assertIs(is_plan(system, plan + plan[:1]), plan == ())
                self.assertIs(is_plan(system, plan[1:]), plan == ())

    def test_all_sequences_of_releases(self):
        system = system_of('ab', ('x', 'a', 'b', 'reader'), ('y', 'b', 'b', 'read'))
        owners = models.owners(system)
        releases = [(service, steps) for service in 'ab' for steps in some_of(owners)
                    if steps and all(owners[step] == service for step in steps)]
        plans = list(all_plans(system))
        for size in range(5):
            for value in itertools.product(releases, repeat=size):
                self.assertIs(is_plan(system, value), value in plans)

    def test_the_empty_plan(self):
        for services in (('a',), TWELVE):
            self.assertIs(is_plan(System(services, ()), ()), True)
        self.assertIs(is_plan(system_of('ab', ('x', 'a', 'b', 'same')), ()), True)
        self.assertIs(is_plan(system_of('ab', ('x', 'a', 'b', 'read')), ()), False)
        self.assertIs(is_plan(mixed(), ()), False)
        self.assertIs(is_plan(System(('a',), ()), []), False)
        self.assertIs(is_plan(System(('a',), ()), ((),)), False)
        self.assertIs(is_plan(System(('a',), ()), (('a', ()),)), False)

    def test_wrong_plans(self):
        system = mixed()
        plan = MIXED_PLAN
        self.assertIs(is_plan(system, plan), True)
        self.assertIs(is_plan(system, plan[::-1]), True)
        for value in (plan[:-1], plan[1:], plan + plan[-1:], plan + (('b', ()),), (('a', ()),) + plan, list(plan),
                      plan[:2] + (('b', (('x', 'narrow'), ('x', 'widen'))),) + plan[3:], plan[0], (plan,), plan + ((),),
                      plan[:4] + (('c', (('w', 'read'), ('w', 'switch'))),), plan[:4] + (('a', (('w', 'switch'),)),),
                      plan[:4] + (('c', (('w', 'read'),)),), dict(plan), None, True, False, 0, '', 'plan', [], {}):
            with self.subTest(value=value):
                self.assertIs(is_plan(system, value), False)

    def test_any_value_at_any_depth(self):
        for path in paths(MIXED_PLAN):
            for at, value in enumerate(odd_values()):
                with self.subTest(path=path, at=at):
                    wrong = replaced(MIXED_PLAN, path, value)
                    before = copied(wrong)
                    self.assertIs(is_plan(mixed(), wrong), False)
                    self.assertEqual(wrong, before)

    def test_lists_in_the_place_of_tuples(self):
        for path in paths(MIXED_PLAN):
            part = part_at(MIXED_PLAN, path)
            if isinstance(part, tuple):
                self.assertIs(is_plan(mixed(), replaced(MIXED_PLAN, path, list(part))), False)

    def test_big_plan(self):
        system = big_system()
        plan = single_steps(system, sorted(models.owners(system)))
        self.assertIs(is_plan(system, plan), True)
        self.assertIs(is_plan(system, plan[::-1]), True)
        self.assertIs(is_plan(system, plan[:-1]), False)
        self.assertIs(is_plan(value=plan, system=system), True)


class SafetyTest(unittest.TestCase):

    def check(self, system, plan):
        fault = first_fault(system, plan)
        self.assertEqual(fault, models.first_fault(system, plan), (system.channels, plan))
        self.assertIs(is_safe(system, plan), fault is None)
        self.assertIs(fault is None, models.keeps_order(system, plan), (system.channels, plan))

    def test_all_plans_of_one_channel(self):
        for change, sender, receiver, system in one_channel_systems():
            for plan in all_plans(system):
                self.check(system, plan)

    def test_all_plans_of_two_channels(self):
        for system in two_channel_systems():
            if len(models.owners(system)) < 6:
                for plan in all_plans(system):
                    self.check(system, plan)

    def test_some_plans_of_two_split_channels(self):
        for receiver, (sender, other) in itertools.product('ab', itertools.product('ab', repeat=2)):
            system = system_of('ab', ('x', 'a', receiver, 'split'), ('y', sender, other, 'split'))
            for plan in itertools.islice(all_plans(system), 0, None, 7):
                self.check(system, plan)

    def test_all_plans_of_three_services(self):
        system = system_of('abc', ('x', 'a', 'b', 'reader'), ('y', 'b', 'c', 'writer'), ('z', 'c', 'a', 'read'))
        for plan in all_plans(system):
            self.check(system, plan)

    def test_each_kind_by_hand(self):
        reader = system_of('ab', ('x', 'a', 'b', 'reader'))
        writer = system_of('ab', ('x', 'a', 'b', 'writer'))
        read, switch = ('b', (('x', 'read'),)), ('a', (('x', 'switch'),))
        self.assertIsNone(first_fault(reader, (read, switch)))
        self.assertEqual(first_fault(reader, (switch, read)), (0, 'x'))
        self.assertIsNone(first_fault(writer, (switch, read)))
        self.assertEqual(first_fault(writer, (read, switch)), (0, 'x'))

    def test_the_first_release_and_the_least_channel(self):
        system = system_of('ab', ('w', 'a', 'b', 'read'), ('x', 'a', 'b', 'reader'), ('y', 'a', 'b', 'reader'))
        both = ('a', (('x', 'switch'), ('y', 'switch')))
        free = ('b', (('w', 'read'),))
        reads = ('b', (('x', 'read'), ('y', 'read')))
        self.assertEqual(first_fault(system, (both, free, reads)), (0, 'x'))
        self.assertEqual(first_fault(system, (free, both, reads)), (1, 'x'))
        self.assertIsNone(first_fault(system, (free, reads, both)))
        self.assertEqual(first_fault(system, (free, ('b', (('x', 'read'),)), both, ('b', (('y', 'read'),)))), (2, 'y'))

    def test_a_service_released_several_times(self):
        system = system_of('ab', ('w', 'a', 'a', 'split'), ('x', 'b', 'a', 'split'))
        safe = single_steps(system, (('w', 'widen'), ('x', 'widen'), ('w', 'switch'), ('x', 'switch'), ('x', 'narrow'),
                                     ('w', 'narrow')))
        self.check(system, safe)
        self.assertIs(is_safe(system, safe), True)
        late = single_steps(system, (('w', 'widen'), ('x', 'widen'), ('w', 'switch'), ('x', 'narrow'), ('x', 'switch'),
                                     ('w', 'narrow')))
        self.check(system, late)
        self.assertEqual(first_fault(system, late), (3, 'x'))

    def test_no_steps(self):
        self.assertIsNone(first_fault(System(('a',), ()), ()))
        self.assertIs(is_safe(system_of('ab', ('x', 'a', 'b', 'same')), ()), True)

    def test_big_plan(self):
        system = big_system()
        plan = safe_single_steps(system)
        self.assertIsNone(first_fault(system, plan))
        for first, second in models.pairs(system):
            order = [release[1][0] for release in plan]
            at, other = order.index(first), order.index(second)
            order[at], order[other] = second, first
            self.check(system, single_steps(system, order))

    def test_nothing_changes(self):
        system = mixed()
        before = copied(MIXED_PLAN)
        self.assertEqual(first_fault(plan=MIXED_PLAN, system=system), first_fault(system, MIXED_PLAN))
        self.assertIs(is_safe(plan=MIXED_PLAN, system=system), True)
        self.assertEqual(MIXED_PLAN, before)
        self.assertEqual(system, mixed())


class LongPlanTest(unittest.TestCase):
    """A plan of 120 releases: twelve services, forty split channels, twelve fields in each part of each format."""

    def setUp(self):
        old, new = (tuple(first + letter for letter in TWELVE) for first in ('old', 'new'))
        self.names = [first + second for first in 'abcd' for second in 'abcdefghij']
        rows = [(name, TWELVE[at % 12], TWELVE[at * 7 % 12], (old, old, old), (new, new, new))
                for at, name in enumerate(self.names)]
        self.system = System(TWELVE, tuple(rows))
        self.steps = [(name, word) for word in ('widen', 'switch', 'narrow') for name in self.names]
        # The last widen and the first switch are of one channel here, and so are the last switch and the first narrow.
        turned = [(name, 'widen') for name in self.names] + [(name, 'switch') for name in self.names[::-1]]
        self.turned = turned + [(name, 'narrow') for name in self.names]

    def test_safe(self):
        for order in (self.steps, self.turned):
            plan = single_steps(self.system, order)
            self.assertEqual(len(plan), 120)
            self.assertIs(is_plan(self.system, plan), True)
            self.assertIsNone(first_fault(self.system, plan))
            self.assertIs(is_safe(self.system, plan), True)
            self.assertIsNone(models.first_fault(self.system, plan))

    def test_two_neighbours_exchanged(self):
        for order, unlike in ((self.steps, ()), (self.turned, (39, 79))):
            for at in range(119):
                plan = single_steps(self.system, [*order[:at], order[at + 1], order[at], *order[at + 2:]])
                self.assertIs(is_plan(self.system, plan), True)
                fault = (at, order[at][0]) if at in unlike else None
                self.assertEqual(first_fault(self.system, plan), fault)
                self.assertIs(is_safe(self.system, plan), fault is None)

    def test_backwards_is_not_safe(self):
        plan = single_steps(self.system, self.steps[::-1])
        self.assertIs(is_plan(self.system, plan), True)
        self.assertEqual(first_fault(self.system, plan), (0, self.names[-1]))
        self.assertIs(is_safe(exchanged(self.system), backwards(self.system, single_steps(self.system, self.steps))), True)

    def test_a_step_missing(self):
        plan = single_steps(self.system, self.steps)
        for at in range(120):
            self.assertIs(is_plan(self.system, plan[:at] + plan[at + 1:]), False)

    def test_a_step_twice(self):
        plan = single_steps(self.system, self.steps)
        for at in range(120):
            self.assertIs(is_plan(self.system, plan + plan[at:at + 1]), False)
            self.assertIs(is_plan(self.system, plan[:at] + plan[at:at + 1] + plan[at:]), False)
            # One step twice, and another one missing.
            self.assertIs(is_plan(self.system, plan[:at] + plan[at - 1:at] + plan[at + 1:]), False)

    def test_all_steps_of_a_service_at_once(self):
        owners = models.owners(self.system)
        plan = tuple((service, tuple(sorted(step for step in owners if owners[step] == service)))
                     for service in sorted(set(owners.values())))
        self.assertIs(is_plan(self.system, plan), True)
        self.assertEqual(first_fault(self.system, plan), models.first_fault(self.system, plan))
        self.assertIs(is_safe(self.system, plan), False)


class BackwardsTest(unittest.TestCase):

    def check(self, system, plan):
        other = exchanged(system)
        back = backwards(system, plan)
        self.assertIs(is_plan(other, back), True)
        self.assertEqual(backwards(other, back), plan)
        self.assertIs(is_safe(other, back), is_safe(system, plan))

    def test_all_plans_of_one_channel(self):
        for change, sender, receiver, system in one_channel_systems():
            for plan in all_plans(system):
                self.check(system, plan)

    def test_all_plans_of_two_channels(self):
        for system in two_channel_systems():
            if len(models.owners(system)) < 6:
                for plan in itertools.islice(all_plans(system), 0, None, 5):
                    self.check(system, plan)

    def test_the_releases(self):
        self.assertEqual(backwards(mixed(), MIXED_PLAN), (
            ('c', (('w', 'switch'),)),
            ('c', (('w', 'read'),)),
            ('b', (('x', 'widen'),)),
            ('a', (('x', 'switch'), ('y', 'read'))),
            ('b', (('x', 'narrow'), ('y', 'switch'))),
        ))
        self.assertEqual(backwards(plan=MIXED_PLAN, system=mixed()), backwards(mixed(), MIXED_PLAN))

    def test_ascending_steps(self):
        system = system_of('a', ('x', 'a', 'a', 'split'), ('y', 'a', 'a', 'split'))
        plan = (('a', (('x', 'switch'), ('x', 'widen'), ('y', 'narrow'), ('y', 'switch'))),
                ('a', (('x', 'narrow'), ('y', 'widen'))))
        self.assertEqual(backwards(system, plan), (
            ('a', (('x', 'widen'), ('y', 'narrow'))),
            ('a', (('x', 'narrow'), ('x', 'switch'), ('y', 'switch'), ('y', 'widen')))))
        self.check(system, plan)

    def test_the_empty_plan(self):
        self.assertEqual(backwards(System(('a',), ()), ()), ())

    def test_big_plan(self):
        system = big_system()
        plan = safe_single_steps(system)
        self.check(system, plan)
        self.assertIs(is_safe(exchanged(system), backwards(system, plan)), True)

    def test_nothing_changes(self):
        before = copied(MIXED_PLAN)
        backwards(mixed(), MIXED_PLAN)
        self.assertEqual(MIXED_PLAN, before)


class ExamplesTest(unittest.TestCase):

    def test_is_release_and_is_plan(self):
        own = System(('a',), (('x', 'a', 'a', OLD, NEW),))
        self.assertEqual(
            [is_release(own, ('a', (('x', 'read'),))), is_plan(own, (('a', (('x', 'read'),)),))],
            [True, False])

    def test_first_fault_and_is_safe(self):
        ring = System(('a', 'b'), (('x', 'a', 'b', OLD, NEW), ('y', 'b', 'a', OLD, NEW)))
        one = ('a', (('x', 'switch'), ('y', 'read')))
        two = ('b', (('x', 'read'), ('y', 'switch')))
        self.assertEqual([first_fault(ring, (one, two)), is_safe(ring, (two, one))], [(0, 'x'), False])

    def test_backwards(self):
        title = System(('a', 'b'), (('z', 'a', 'b', NAMED, TITLED),))
        plan = (('b', (('z', 'widen'),)), ('a', (('z', 'switch'),)), ('b', (('z', 'narrow'),)))
        self.assertEqual(backwards(title, plan), plan)


if __name__ == '__main__':
    unittest.main()
