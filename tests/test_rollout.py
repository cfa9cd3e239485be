import random
import unittest

from fewreleases.errors import Fault, NoService, NothingToUndo, NotSteps
from fewreleases.fewest import fewest_plan, fewest_releases
from fewreleases.plans import is_plan, is_release, is_safe
from fewreleases.rollout import Rollout
from fewreleases.steps import all_steps
from fewreleases.systems import System
from tests import models, split_models
from tests.drawn import both_ways, drawn_plan, drawn_system, drawn_systems, ring_of
from tests.models import TWELVE, big_system, four_kinds, one_channel_systems, some_of, system_of, two_channel_systems
from tests.samples import NAMED, NEW, OLD, TITLED, copied, nested, odd_values, paths, replaced, wraps


def state(rollout):
    """Return all that a rollout answers."""
    ready = tuple(rollout.ready_steps(service) for service in rollout.system.services)
    return (rollout.releases(), rollout.done_steps(), rollout.left_steps(), ready, rollout.fewest_left(),
            rollout.finish(), len(rollout))


class EveryMomentTest(unittest.TestCase):

    def go_through(self, system):
        """Reach all safe moments of a small system by all safe releases."""
        self.system = system
        self.owner = models.owners(system)
        self.least = split_models.least_from(system)
        self.seen = set()
        self.go_on(Rollout(system))

    def go_on(self, rollout):
        done = rollout.done_steps()
        if done in self.seen:
            return
        self.seen.add(done)
        self.check_moment(rollout, done)
        for service in self.system.services:
            for steps in some_of(step for step in self.owner if self.owner[step] == service):
                self.check_release(rollout, service, steps)

    def check_moment(self, rollout, done):
        pairs = models.pairs(self.system)
        left = tuple(step for step in sorted(self.owner) if step not in done)
        ready = [step for step in left if all(first in done for first, second in pairs if second == step)]
        self.assertEqual(rollout.left_steps(), left)
        for service in self.system.services:
            own = tuple(step for step in ready if self.owner[step] == service)
            self.assertEqual(rollout.ready_steps(service), own)
        self.assertEqual(rollout.fewest_left(), self.least(done), (self.system.channels, done))
        self.check_finish(rollout)

    def check_finish(self, rollout):
        before = state(rollout)
        rest = rollout.finish()
        self.assertIs(rest.__class__, tuple)
        self.assertEqual(len(rest), rollout.fewest_left())
        self.assertEqual(state(rollout), before)
        plan = rollout.releases() + rest
        self.assertIs(is_plan(rollout.system, plan), True)
        self.assertIsNone(models.first_fault(rollout.system, plan))

    def check_release(self, rollout, service, steps):
        done = rollout.done_steps()
        before = state(rollout)
        if steps == () or set(steps) & set(done):
            with self.assertRaises(NotSteps) as caught:
                rollout.release(service, steps)
            self.assertIs(caught.exception.value, steps)
            self.assertEqual(state(rollout), before)
            return
        names = models.refused(self.system, models.running(self.system, done, (service, steps)))
        self.assertIs(names == [], set(steps) <= set(rollout.ready_steps(service)))
        if names:
            with self.assertRaises(Fault) as caught:
                rollout.release(service, steps)
            self.assertEqual((caught.exception.index, caught.exception.name), (len(before[0]), min(names)))
            self.assertEqual(state(rollout), before)
        else:
            self.assertIsNone(rollout.release(service, steps))
            self.assertEqual(rollout.releases(), before[0] + ((service, steps),))
            self.assertEqual(rollout.done_steps(), tuple(sorted(done + steps)))
            self.go_on(rollout)
            self.assertEqual(rollout.undo(), (service, steps))
            self.assertEqual(state(rollout), before)

    def test_one_channel(self):
        for change, sender, receiver, system in one_channel_systems():
            self.go_through(system)

    def test_two_channels(self):
        for system in two_channel_systems():
            self.go_through(system)

    def test_rings_and_mixed(self):
        for system in (ring_of('abc'), ring_of('abcd'), four_kinds()):
            self.go_through(system)

    def test_drawn_systems(self):
        for system in drawn_systems(61, 120, 4, 5):
            if len(models.owners(system)) < 8:
                self.go_through(system)

    def test_larger_systems(self):
        source = random.Random(62)
        for system in [big_system(), drawn_system(source, 12, 40), both_ways('abcdef')]:
            for plan in (fewest_plan(system), drawn_plan(system, source, True)):
                rollout = Rollout(system)
                for at, (service, steps) in enumerate(plan):
                    self.check_finish(rollout)
                    self.assertLessEqual(rollout.fewest_left(), len(plan) - at)
                    rollout.release(service, steps)
                self.assertEqual((rollout.fewest_left(), rollout.finish(), rollout.left_steps()), (0, (), ()))
                self.assertEqual(rollout.releases(), plan)


class FewestLeftTest(unittest.TestCase):

    def test_at_the_beginning(self):
        for system in [*drawn_systems(63, 60, 8, 16), big_system(), ring_of(TWELVE), System(('a',), ())]:
            rollout = Rollout(system)
            self.assertEqual(rollout.fewest_left(), fewest_releases(system))
            self.assertEqual(rollout.finish(), fewest_plan(system))

    def test_along_a_plan_with_the_fewest_releases(self):
        for system in [*drawn_systems(64, 40, 6, 10), big_system(), both_ways('abcde')]:
            rollout = Rollout(system)
            plan = fewest_plan(system)
            for at, release in enumerate(plan):
                self.assertEqual(rollout.fewest_left(), len(plan) - at)
                rollout.release(*release)

    def test_after_releases_that_do_not_help(self):
        rollout = Rollout(ring_of('abc'))
        steps = [step for step in all_steps(rollout.system) if step in sum(map(rollout.ready_steps, 'abc'), ())]
        for many, step in enumerate(steps, start=1):
            rollout.release(models.owners(rollout.system)[step], (step,))
            self.assertEqual(rollout.fewest_left(), 3)
            self.assertEqual(len(rollout), many)

    def test_split_channel_in_the_middle(self):
        rollout = Rollout(system_of('a', ('x', 'a', 'a', 'split')))
        for word, left in (('widen', 2), ('switch', 1), ('narrow', 0)):
            self.assertEqual(rollout.fewest_left(), left + 1)
            rollout.release('a', (('x', word),))
            self.assertEqual(rollout.fewest_left(), left)


class WrongReleaseTest(unittest.TestCase):

    def setUp(self):
        self.rollout = Rollout(four_kinds())
        self.rollout.release('b', (('x', 'widen'),))
        self.before = state(self.rollout)

    def check(self, kind, attribute, wrong, service, steps):
        before = copied((service, steps))
        with self.assertRaises(kind) as caught:
            self.rollout.release(service, steps)
        self.assertIs(getattr(caught.exception, attribute), wrong)
        self.assertEqual((service, steps), before)
        self.assertEqual(state(self.rollout), self.before)

    def test_no_service(self):
        for service in odd_values() + ['d', 'abc', ('a',), ['a'], {'a': 'a'}]:
            for steps in ((('x', 'switch'),), (), None, [], (('x', 'narrow'),)):
                self.check(NoService, 'service', service, service, steps)

    def test_not_steps(self):
        switch = ('x', 'switch')
        for steps in ((), [], [switch], switch, (switch, switch), (('y', 'read'), switch), (switch, ('y', 'read'), switch),
                      (('x', 'widen'),), (('x', 'narrow'),), (switch, ('x', 'widen')), (list(switch),), ('x.switch',),
                      'x.switch', (('x', 'Switch'),), (('z', 'switch'),), (('x', 'switch', ''),), (('x',),), ((),),
                      {switch: True}, None, True, 0, '', {}, (None,), (True,), (('v', 'read'),), ((switch,),)):
            with self.subTest(steps=steps):
                self.check(NotSteps, 'value', steps, 'a', steps)
        self.check(NotSteps, 'value', (('x', 'widen'),), 'b', (('x', 'widen'),))

    def test_any_value_at_any_depth(self):
        good = (('v', 'switch'), ('x', 'switch'))
        for path in paths(good):
            for value in odd_values():
                wrong = replaced(good, path, value)
                self.check(NotSteps, 'value', wrong, 'a', wrong)
        for wrap in wraps()[:4]:
            for depth in range(1, 20):
                wrong = nested(good, wrap, depth)
                self.check(NotSteps, 'value', wrong, 'a', wrong)
        self.assertIsNone(self.rollout.release('a', good))

    def test_fault(self):
        with self.assertRaises(Fault) as caught:
            self.rollout.release('b', (('x', 'narrow'), ('y', 'switch')))
        self.assertEqual((caught.exception.index, caught.exception.name), (1, 'x'))
        self.assertEqual(state(self.rollout), self.before)
        with self.assertRaises(Fault) as caught:
            self.rollout.release('a', (('v', 'switch'), ('x', 'switch'), ('y', 'read')))
        self.assertEqual((caught.exception.index, caught.exception.name), (1, 'y'))
        self.assertEqual(state(self.rollout), self.before)

    def test_the_index_counts_releases_that_were_not_taken_back(self):
        self.rollout.release('a', (('x', 'switch'),))
        self.rollout.release('c', (('w', 'read'),))
        self.rollout.undo()
        with self.assertRaises(Fault) as caught:
            self.rollout.release('c', (('w', 'switch'),))
        self.assertEqual((caught.exception.index, caught.exception.name), (2, 'w'))

    def test_the_least_channel(self):
        rollout = Rollout(system_of('ab', ('w', 'a', 'b', 'reader'), ('x', 'a', 'b', 'both'), ('y', 'a', 'b', 'reader')))
        with self.assertRaises(Fault) as caught:
            rollout.release('a', (('w', 'switch'), ('x', 'switch'), ('y', 'switch')))
        self.assertEqual((caught.exception.index, caught.exception.name), (0, 'w'))

    def test_ready_steps_of_no_service(self):
        for service in odd_values() + ['d', 'abc', ('a',), ['a'], {'a': 'a'}]:
            with self.assertRaises(NoService) as caught:
                self.rollout.ready_steps(service)
            self.assertIs(caught.exception.service, service)
        self.assertEqual(state(self.rollout), self.before)


class UndoTest(unittest.TestCase):

    def test_to_the_beginning(self):
        source = random.Random(65)
        for system in [four_kinds(), big_system(), ring_of(TWELVE)]:
            rollout = Rollout(system)
            plan = drawn_plan(system, source, True)[:12]
            states = []
            for release in plan:
                states.append(state(rollout))
                rollout.release(*release)
            for release in reversed(plan):
                self.assertEqual(rollout.undo(), release)
                self.assertEqual(state(rollout), states.pop())
            for time in range(2):
                with self.assertRaises(NothingToUndo):
                    rollout.undo()
                self.assertEqual(rollout, Rollout(system))

    def test_nothing_to_undo(self):
        for system in (System(('a',), ()), four_kinds()):
            rollout = Rollout(system)
            with self.assertRaises(NothingToUndo):
                rollout.undo()
            self.assertEqual((rollout.releases(), len(rollout)), ((), 0))

    def test_on_after_undo(self):
        rollout = Rollout(four_kinds())
        rollout.release('c', (('w', 'read'),))
        rollout.undo()
        rollout.release('c', (('v', 'read'), ('w', 'read')))
        self.assertEqual(rollout.releases(), (('c', (('v', 'read'), ('w', 'read'))),))
        self.assertIs(is_release(rollout.system, rollout.undo()), True)


class CopyAndEqualTest(unittest.TestCase):

    def test_copies_go_on_separately(self):
        rollout = Rollout(four_kinds())
        rollout.release('b', (('x', 'widen'),))
        other = rollout.copy()
        self.assertIsInstance(other, Rollout)
        self.assertEqual(other, rollout)
        self.assertEqual(state(other), state(rollout))
        before = state(rollout)
        other.release('a', (('x', 'switch'),))
        self.assertEqual(state(rollout), before)
        self.assertNotEqual(other, rollout)
        rollout.undo()
        self.assertEqual(other.releases(), (('b', (('x', 'widen'),)), ('a', (('x', 'switch'),))))
        self.assertEqual((len(rollout), len(other)), (0, 2))
        self.assertEqual((other.undo(), other.undo()), (('a', (('x', 'switch'),)), ('b', (('x', 'widen'),))))
        self.assertEqual(other, rollout)

    def test_a_copy_of_the_beginning(self):
        rollout = Rollout(four_kinds())
        other = rollout.copy()
        rollout.release('c', (('w', 'read'),))
        self.assertEqual(state(other), state(Rollout(four_kinds())))

    def test_equal_by_other_releases(self):
        first, second, third = Rollout(four_kinds()), Rollout(four_kinds()), Rollout(four_kinds())
        first.release('c', (('v', 'read'),))
        first.release('c', (('w', 'read'),))
        second.release('c', (('v', 'read'), ('w', 'read')))
        self.assertIs(first == second, True)
        self.assertIs(first != second, False)
        self.assertNotEqual(len(first), len(second))
        third.release('c', (('v', 'read'),))
        self.assertIs(first == third, False)
        self.assertIs(first != third, True)

    def test_other_systems(self):
        self.assertIs(Rollout(ring_of('ab')) == Rollout(ring_of('abc')), False)
        self.assertIs(Rollout(System(('a',), ())) == Rollout(System(('b',), ())), False)
        self.assertIs(Rollout(ring_of('ab')) == Rollout(ring_of('ab')), True)

    def test_no_other_value(self):
        rollout = Rollout(System(('a',), ()))
        for value in odd_values() + [rollout.system, (), rollout.releases(), 0]:
            self.assertIs(rollout == value, False)
            self.assertIs(value == rollout, False)
            self.assertIs(rollout != value, True)


class CallsTest(unittest.TestCase):

    def test_by_name(self):
        rollout = Rollout(system=four_kinds())
        self.assertIsNone(rollout.release(steps=(('w', 'read'),), service='c'))
        self.assertEqual(rollout.ready_steps(service='c'), (('v', 'read'), ('w', 'switch')))

    def test_kinds_of_values(self):
        rollout = Rollout(four_kinds())
        rollout.release('c', (('w', 'read'),))
        for value in (rollout.releases(), rollout.done_steps(), rollout.left_steps(), rollout.ready_steps('a'),
                      rollout.finish(), rollout.undo()):
            self.assertIs(value.__class__, tuple)
        self.assertIs(rollout.fewest_left().__class__, int)
        self.assertIs(len(rollout).__class__, int)

    def test_no_steps(self):
        rollout = Rollout(System(('a', 'b'), ()))
        self.assertEqual(state(rollout), ((), (), (), ((), ()), 0, (), 0))
        with self.assertRaises(NotSteps):
            rollout.release('a', ())

    def test_the_system_stays(self):
        system = four_kinds()
        rollout = Rollout(system)
        rollout.release('c', (('w', 'read'),))
        rollout.finish()
        self.assertEqual(system, four_kinds())
        self.assertIs(is_safe(system, rollout.releases() + rollout.finish()), True)


class ExamplesTest(unittest.TestCase):

    def test_title(self):
        rollout = Rollout(System(('a', 'b'), (('z', 'a', 'b', NAMED, TITLED),)))
        self.assertIsNone(rollout.release('b', (('z', 'widen'),)))
        self.assertEqual(
            [rollout.ready_steps('a'), rollout.ready_steps('b'), rollout.fewest_left(), rollout.finish()],
            [(('z', 'switch'),), (), 2, (('a', (('z', 'switch'),)), ('b', (('z', 'narrow'),)))])

    def test_ring(self):
        rollout = Rollout(System(('a', 'b'), (('x', 'a', 'b', OLD, NEW), ('y', 'b', 'a', OLD, NEW))))
        with self.assertRaises(Fault) as caught:
            rollout.release('a', (('x', 'switch'),))
        self.assertEqual((caught.exception.index, caught.exception.name), (0, 'x'))


if __name__ == '__main__':
    unittest.main()
