import itertools
import unittest

from fewreleases.errors import NoService, NoStep
from fewreleases.steps import all_steps, order_pairs, owner_of, steps_of
from fewreleases.systems import System
from tests import models
from tests.models import CHANGES, ORDERS, TWELVE, WORDS, big_system, one_channel_systems, system_of
from tests.samples import NAMED, NEW, OLD, TITLED, copied, nested, odd_values, wraps


def ring():
    return System(('a', 'b'), (('x', 'a', 'b', OLD, NEW), ('y', 'b', 'a', OLD, NEW)))


def title():
    return System(('a', 'b'), (('z', 'a', 'b', NAMED, TITLED),))


def not_names():
    """Return values that are no service and no step of the ring."""
    steps = [('x', 'widen'), ('x', 'narrow'), ('x', 'Switch'), ('x', ''), ('x',), ('z', 'switch'), ('a', 'read'),
             ('switch', 'x'), ('x', 'switch', 'x'), ['x', 'switch'], ('x', ['switch']), (('x', 'switch'),),
             ('x', 'switch '), 'x.switch', 'xswitch', 'x', {'x': 'switch'}, {('x', 'switch'): True}, (),
             ('', 'switch'), ('X', 'switch'), ('x', None), ('x', True), ('x', 0), (True, 'switch')]
    names = ['c', 'aa', 'A', 'ab', 'a ', ' a', '', ('a',), ['a'], {'a': 'a'}, ('a', 'b'), [['a']]]
    deep = [nested(inner, wrap, depth) for wrap in wraps()[:4] for depth in range(1, 21)
            for inner in ('a', 'x', ('x', 'switch'))]
    return steps + names + deep + odd_values()


class StepsTest(unittest.TestCase):

    def test_one_channel_of_each_change(self):
        for change, sender, receiver, system in one_channel_systems():
            with self.subTest(change=change, sender=sender, receiver=receiver):
                words = CHANGES[change][3]
                self.assertEqual(all_steps(system), tuple(('x', word) for word in words))
                for word in words:
                    owner = sender if word == 'switch' else receiver
                    self.assertEqual(owner_of(system, ('x', word)), owner)
                for service in 'ab':
                    owned = tuple(('x', word) for word in words
                                  if service == (sender if word == 'switch' else receiver))
                    self.assertEqual(steps_of(system, service), owned)

    def test_equal_fields_written(self):
        self.assertEqual(all_steps(system_of('ab', ('x', 'a', 'b', 'read'))), (('x', 'read'),))
        self.assertEqual(steps_of(system_of('ab', ('x', 'a', 'b', 'read')), 'a'), ())

    def test_equal_readers(self):
        self.assertEqual(all_steps(system_of('ab', ('x', 'a', 'b', 'switched'))), (('x', 'switch'),))
        self.assertEqual(steps_of(system_of('ab', ('x', 'a', 'b', 'switched')), 'b'), ())

    def test_readers_with_unlike_needs_only(self):
        old = (('id',), (), ('id',))
        system = System(('a',), (('x', 'a', 'a', old, OLD),))
        self.assertEqual(all_steps(system), (('x', 'read'),))

    def test_all_small_changes(self):
        fields = [some for size in range(3) for some in itertools.combinations('fg', size)]
        formats = [row for row in itertools.product(fields, repeat=3) if set(row[1]) <= set(row[0]) <= set(row[2])]
        for old, new in itertools.product(formats, repeat=2):
            system = System(('a', 'b'), (('x', 'a', 'b', old, new), ('y', 'b', 'b', old, new)))
            self.check_against_the_model(system)

    def check_against_the_model(self, system):
        owners = models.owners(system)
        self.assertEqual(all_steps(system), tuple(sorted(owners)))
        self.assertEqual(order_pairs(system), tuple(sorted(models.pairs(system))))
        for service in system.services:
            owned = tuple(sorted(step for step in owners if owners[step] == service))
            self.assertEqual(steps_of(system, service), owned)
        for channel, word in itertools.product(system.channels, WORDS):
            step = (channel[0], word)
            if step in owners:
                self.assertEqual(owner_of(system, step), owners[step])
            else:
                self.assert_no_step(system, step)

    def assert_no_step(self, system, step):
        with self.assertRaises(NoStep) as caught:
            owner_of(system, step)
        self.assertIs(caught.exception.step, step)

    def assert_no_service(self, system, service):
        with self.assertRaises(NoService) as caught:
            steps_of(system, service)
        self.assertIs(caught.exception.service, service)

    def test_big_system(self):
        system = big_system()
        self.assertEqual((len(system.services), len(system.channels)), (12, 40))
        self.assertEqual({models.kind(channel) for channel in system.channels}, set(ORDERS))
        self.assertTrue([channel for channel in system.channels if channel[1] == channel[2]])
        self.check_against_the_model(system)

    def test_no_channels(self):
        for services in (('a',), TWELVE):
            system = System(services, ())
            self.assertEqual(all_steps(system), ())
            self.assertEqual(order_pairs(system), ())
            for service in services:
                self.assertEqual(steps_of(system, service), ())
            self.assert_no_step(system, ('x', 'switch'))

    def test_one_service_with_40_channels(self):
        names = [first + second for first in 'abcd' for second in 'abcdefghij']
        system = system_of('a', *[(name, 'a', 'a', 'split') for name in names])
        self.assertEqual(len(all_steps(system)), 120)
        self.assertEqual(steps_of(system, 'a'), all_steps(system))
        self.check_against_the_model(system)

    def test_a_service_without_steps(self):
        system = system_of('abc', ('x', 'a', 'b', 'reader'), ('y', 'c', 'c', 'same'))
        self.assertEqual(steps_of(system, 'c'), ())
        self.assertEqual(all_steps(system), (('x', 'read'), ('x', 'switch')))

    def test_ascending_by_name_then_by_word(self):
        system = system_of('ab', ('x', 'a', 'b', 'split'), ('xa', 'b', 'a', 'reader'), ('y', 'a', 'a', 'writer'))
        self.assertEqual(all_steps(system), (('x', 'narrow'), ('x', 'switch'), ('x', 'widen'), ('xa', 'read'),
                                             ('xa', 'switch'), ('y', 'read'), ('y', 'switch')))
        self.assertEqual(steps_of(system, 'a'), (('x', 'switch'), ('xa', 'read'), ('y', 'read'), ('y', 'switch')))
        self.assertEqual(steps_of(system, 'b'), (('x', 'narrow'), ('x', 'widen'), ('xa', 'switch')))

    def test_any_service(self):
        for at, value in enumerate(not_names()):
            with self.subTest(at=at):
                before = copied(value)
                self.assert_no_service(ring(), value)
                self.assertEqual(value, before)

    def test_any_step(self):
        for at, value in enumerate(not_names()):
            with self.subTest(at=at):
                before = copied(value)
                self.assert_no_step(ring(), value)
                self.assertEqual(value, before)

    def test_words_that_the_channel_does_not_have(self):
        for change in CHANGES:
            system = system_of('ab', ('x', 'a', 'b', change))
            for word in (*WORDS, 'free', 'split', ''):
                if word not in CHANGES[change][3]:
                    self.assert_no_step(system, ('x', word))

    def test_by_name(self):
        self.assertEqual(all_steps(system=title()), all_steps(title()))
        self.assertEqual(steps_of(service='a', system=title()), (('z', 'switch'),))
        self.assertEqual(owner_of(step=('z', 'widen'), system=title()), 'b')
        self.assertEqual(order_pairs(system=title()), order_pairs(title()))

    def test_tuples(self):
        self.assertIsInstance(all_steps(title()), tuple)
        self.assertIsInstance(steps_of(title(), 'a'), tuple)
        self.assertIsInstance(order_pairs(title()), tuple)
        for pair in order_pairs(title()):
            self.assertEqual([part.__class__ for part in (pair, *pair)], [tuple] * 3)


class OrderPairsTest(unittest.TestCase):

    def test_one_channel_of_each_change(self):
        for change, sender, receiver, system in one_channel_systems():
            with self.subTest(change=change, sender=sender, receiver=receiver):
                expected = tuple((('x', first), ('x', second)) for first, second in ORDERS[CHANGES[change][2]])
                self.assertEqual(order_pairs(system), expected)

    def test_several_channels(self):
        system = system_of('ab', ('w', 'a', 'b', 'writer'), ('x', 'b', 'b', 'reader'), ('y', 'a', 'a', 'both'),
                           ('z', 'b', 'a', 'split'))
        self.assertEqual(order_pairs(system), (
            (('w', 'switch'), ('w', 'read')), (('x', 'read'), ('x', 'switch')),
            (('z', 'switch'), ('z', 'narrow')), (('z', 'widen'), ('z', 'switch'))))


class ExamplesTest(unittest.TestCase):

    def test_all_steps_and_steps_of(self):
        self.assertEqual(
            [all_steps(title()), steps_of(title(), 'b')],
            [(('z', 'narrow'), ('z', 'switch'), ('z', 'widen')), (('z', 'narrow'), ('z', 'widen'))])

    def test_owner_of(self):
        with self.assertRaises(NoStep) as caught:
            owner_of(ring(), ('x', 'widen'))
        self.assertEqual(caught.exception.step, ('x', 'widen'))

    def test_order_pairs(self):
        self.assertEqual(order_pairs(title()),
                         ((('z', 'switch'), ('z', 'narrow')), (('z', 'widen'), ('z', 'switch'))))


if __name__ == '__main__':
    unittest.main()
