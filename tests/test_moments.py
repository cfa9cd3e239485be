import itertools
import unittest

from fewreleases.errors import NotSteps
from fewreleases.moments import formats_at, refusals, refusals_during
from fewreleases.systems import System
from tests import models
from tests.models import big_system, one_channel_systems, some_of, system_of
from tests.samples import NAMED, NEW, OLD, TITLED, copied, nested, odd_values, part_at, paths, replaced, wraps

OLD_READER = NAMED[1:]
NEW_READER = TITLED[1:]
WIDE_READER = ((), ('name', 'title'))


def steps_x(*words):
    return tuple(('x', word) for word in words)


def formats_by_model(system, done):
    return tuple((channel[0], models.written(channel, done), models.reader(channel, done))
                 for channel in system.channels)


class FormatsTest(unittest.TestCase):

    def test_every_combination_on_one_channel(self):
        for change, sender, receiver, system in one_channel_systems():
            for done in some_of(models.owners(system)):
                with self.subTest(change=change, sender=sender, receiver=receiver, done=done):
                    self.assertEqual(formats_at(system, done), formats_by_model(system, done))
                    refused = models.refused(system, models.running(system, done))
                    self.assertEqual(refusals(system, done), tuple(refused))

    def test_every_combination_on_a_split_channel(self):
        system = system_of('ab', ('x', 'a', 'b', 'split'))
        old, new = ('name',), ('title',)
        for words, written, reader, refused in (
                ((), old, OLD_READER, False),
                (('narrow',), old, NEW_READER, True),
                (('switch',), new, OLD_READER, True),
                (('widen',), old, WIDE_READER, False),
                (('narrow', 'switch'), new, NEW_READER, False),
                (('narrow', 'widen'), old, NEW_READER, True),
                (('switch', 'widen'), new, WIDE_READER, False),
                (('narrow', 'switch', 'widen'), new, NEW_READER, False)):
            with self.subTest(words=words):
                self.assertEqual(formats_at(system, steps_x(*words)), (('x', written, reader),))
                self.assertEqual(refusals(system, steps_x(*words)), ('x',) if refused else ())

    def test_every_combination_on_the_other_kinds(self):
        for change, refused in (('reader', ('switch',)), ('writer', ('read',))):
            system = system_of('ab', ('x', 'a', 'b', change))
            for words in ((), ('read',), ('switch',), ('read', 'switch')):
                self.assertEqual(refusals(system, steps_x(*words)), ('x',) if words == refused else ())
        for change in ('same', 'switched', 'read', 'both'):
            system = system_of('ab', ('x', 'a', 'b', change))
            for done in some_of(models.owners(system)):
                self.assertEqual(refusals(system, done), ())

    def test_the_channel_without_a_step_for_it(self):
        system = system_of('ab', ('x', 'a', 'b', 'switched'), ('y', 'a', 'b', 'read'), ('z', 'a', 'b', 'same'))
        self.assertEqual(formats_at(system, (('x', 'switch'), ('y', 'read'))), (
            ('x', ('id', 'tag'), ((), ('id', 'tag'))), ('y', ('id',), (('id',), ('id', 'tag'))),
            ('z', ('id',), (('id',), ('id',)))))

    def test_no_step_and_all_steps_done(self):
        system = big_system()
        steps = tuple(sorted(models.owners(system)))
        before = tuple((name, old[0], old[1:]) for name, sender, receiver, old, new in system.channels)
        behind = tuple((name, new[0], new[1:]) for name, sender, receiver, old, new in system.channels)
        self.assertEqual(formats_at(system, ()), before)
        self.assertEqual(formats_at(system, steps), behind)
        self.assertEqual(refusals(system, ()), ())
        self.assertEqual(refusals(system, steps), ())

    def test_some_steps_of_a_big_system_done(self):
        system = big_system()
        steps = sorted(models.owners(system))
        for many in range(2, 6):
            for first in range(many):
                done = tuple(steps[first::many])
                self.assertEqual(formats_at(system, done), formats_by_model(system, done))
                refused = models.refused(system, models.running(system, done))
                self.assertEqual(refusals(system, done), tuple(refused))
                self.assertEqual(list(refused), sorted(refused))

    def test_no_channels(self):
        system = System(('a',), ())
        self.assertEqual(formats_at(system, ()), ())
        self.assertEqual(refusals(system, ()), ())

    def test_the_steps_of_a_channel_with_an_equal_beginning(self):
        system = system_of('ab', ('x', 'a', 'b', 'reader'), ('xx', 'a', 'b', 'reader'))
        self.assertEqual(refusals(system, (('xx', 'switch'),)), ('xx',))
        self.assertEqual(refusals(system, (('x', 'switch'),)), ('x',))
        self.assertEqual(refusals(system, (('x', 'switch'), ('xx', 'switch'))), ('x', 'xx'))

    def test_a_wide_reader_of_24_fields(self):
        twelve, other = tuple('abcdefghijkl'), tuple('mnopqrstuvwx')
        system = System(('a',), (('x', 'a', 'a', (twelve, twelve, twelve), (other, other, other)),))
        self.assertEqual(formats_at(system, (('x', 'widen'),)), (('x', twelve, ((), twelve + other)),))
        self.assertEqual(refusals(system, (('x', 'switch'), ('x', 'widen'))), ())

    def test_by_name(self):
        system = system_of('ab', ('x', 'a', 'b', 'reader'))
        self.assertEqual(formats_at(done=(), system=system), formats_at(system, ()))
        self.assertEqual(refusals(done=steps_x('switch'), system=system), ('x',))
        self.assertEqual(refusals_during(release=('a', steps_x('switch')), done=(), system=system), ('x',))


class DuringTest(unittest.TestCase):

    def test_every_release_on_one_channel(self):
        for change, sender, receiver, system in one_channel_systems():
            self.check_every_release(system)

    def check_every_release(self, system):
        owners = models.owners(system)
        for done in some_of(owners):
            for service in system.services:
                owned = [step for step in owners if owners[step] == service and step not in done]
                for steps in some_of(owned)[1:]:
                    release = (service, steps)
                    refused = models.refused(system, models.running(system, done, release))
                    with self.subTest(channels=system.channels, done=done, release=release):
                        self.assertEqual(refusals_during(system, done, release), tuple(refused))

    def test_every_release_on_two_channels(self):
        for first, second in (('reader', 'reader'), ('reader', 'split'), ('writer', 'both'), ('split', 'writer')):
            self.check_every_release(system_of('ab', ('x', 'a', 'b', first), ('y', 'b', 'a', second)))
            self.check_every_release(system_of('ab', ('x', 'a', 'a', first), ('y', 'a', 'b', second)))

    def test_both_versions_side_by_side(self):
        system = system_of('ab', ('x', 'a', 'b', 'reader'), ('y', 'a', 'b', 'writer'))
        self.assertEqual(refusals_during(system, (), ('a', (('x', 'switch'),))), ('x',))
        self.assertEqual(refusals_during(system, (), ('a', (('y', 'switch'),))), ())
        self.assertEqual(refusals_during(system, (), ('a', (('x', 'switch'), ('y', 'switch')))), ('x',))
        self.assertEqual(refusals_during(system, (), ('b', (('x', 'read'),))), ())
        self.assertEqual(refusals_during(system, (), ('b', (('x', 'read'), ('y', 'read')))), ('y',))

    def test_all_four_combinations_on_a_self_channel(self):
        for change, fits in (('both', True), ('reader', False), ('writer', False)):
            system = system_of('a', ('x', 'a', 'a', change))
            release = ('a', steps_x('read', 'switch'))
            self.assertEqual(refusals_during(system, (), release), () if fits else ('x',))
        system = system_of('a', ('x', 'a', 'a', 'split'))
        for done, words, fits in (
                ((), ('widen',), True), ((), ('switch', 'widen'), False), ((), ('narrow', 'widen'), False),
                ((), ('narrow', 'switch'), False), ((), ('narrow', 'switch', 'widen'), False),
                (('widen',), ('switch',), True), (('widen',), ('narrow', 'switch'), False),
                (('switch', 'widen'), ('narrow',), True)):
            with self.subTest(done=done, words=words):
                refused = refusals_during(system, steps_x(*done), ('a', steps_x(*words)))
                self.assertEqual(refused, () if fits else ('x',))

    def test_the_version_before_the_release_still_runs(self):
        system = system_of('ab', ('x', 'a', 'b', 'reader'))
        self.assertEqual(refusals_during(system, steps_x('switch'), ('b', steps_x('read'))), ('x',))
        self.assertEqual(refusals(system, steps_x('read', 'switch')), ())

    def test_channels_of_other_services(self):
        system = system_of('abc', ('x', 'a', 'b', 'reader'), ('y', 'c', 'c', 'read'), ('z', 'b', 'a', 'reader'))
        done = (('x', 'switch'), ('z', 'switch'))
        self.assertEqual(refusals_during(system, done, ('c', (('y', 'read'),))), ('x', 'z'))

    def test_nothing_changes(self):
        system = big_system()
        owners = models.owners(system)
        release = ('a', tuple(sorted(step for step in owners if owners[step] == 'a')))
        values = (system.services, system.channels, release)
        before = copied(values)
        self.assertEqual(formats_at(system, ()), formats_at(system, ()))
        self.assertEqual(refusals(system, ()), refusals(system, ()))
        self.assertEqual(refusals_during(system, (), release), refusals_during(system, (), release))
        self.assertEqual(values, before)


class NotStepsTest(unittest.TestCase):

    def setUp(self):
        self.system = system_of('ab', ('x', 'a', 'b', 'split'), ('y', 'b', 'a', 'reader'))
        self.done = (('x', 'switch'), ('x', 'widen'), ('y', 'read'))
        self.release = ('b', (('y', 'switch'),))

    def assert_not_steps(self, done):
        for function, rest in ((formats_at, ()), (refusals, ()), (refusals_during, (self.release,))):
            with self.assertRaises(NotSteps) as caught:
                function(self.system, done, *rest)
            self.assertIs(caught.exception.value, done)

    def test_wrong_steps(self):
        for done in (list(self.done), [], {}, None, 0, False, True, '', 'x', ('x', 'switch'),
                     (('x', 'switch'), ('x', 'switch')), (('x', 'widen'), ('x', 'switch')),
                     (('y', 'read'), ('x', 'switch')), (('x', 'read'),), (('y', 'widen'),), (('z', 'switch'),),
                     (('x', 'switch'), ['x', 'widen']), (['x', 'switch'],), (('x', 'switch', 'x'),), (('x',),),
                     {('x', 'switch'): True}, ((('x', 'switch'),),), (('x', 'switch'), None),
                     (None, ('x', 'switch')), (('x', 'switch'), ('x', 'widen'), ('y', 'read'), ('y', 'read'))):
            with self.subTest(done=done):
                self.assert_not_steps(done)

    def test_no_steps_in_a_system_without_steps(self):
        system = System(('a',), ())
        with self.assertRaises(NotSteps) as caught:
            refusals(system, self.done)
        self.assertIs(caught.exception.value, self.done)

    def test_every_order(self):
        for order in itertools.permutations(self.done):
            if order != self.done:
                self.assert_not_steps(order)

    def test_any_value_at_any_depth(self):
        for path in paths(self.done):
            for at, value in enumerate(odd_values()):
                with self.subTest(path=path, at=at):
                    done = replaced(self.done, path, value)
                    before = copied(done)
                    self.assert_not_steps(done)
                    self.assertEqual(done, before)

    def test_lists_in_the_place_of_tuples(self):
        for path in paths(self.done):
            part = part_at(self.done, path)
            if isinstance(part, tuple):
                self.assert_not_steps(replaced(self.done, path, list(part)))

    def test_every_depth(self):
        for wrap in wraps()[:4]:
            for depth in range(1, 21):
                self.assert_not_steps(nested('x', wrap, depth))
                self.assert_not_steps((('x', 'switch'), nested('x', wrap, depth)))


class ExamplesTest(unittest.TestCase):

    def test_formats_at(self):
        title = System(('a', 'b'), (('z', 'a', 'b', NAMED, TITLED),))
        self.assertEqual(formats_at(title, (('z', 'widen'),)), (('z', ('name',), ((), ('name', 'title'))),))

    def test_refusals(self):
        ring = System(('a', 'b'), (('x', 'a', 'b', OLD, NEW), ('y', 'b', 'a', OLD, NEW)))
        self.assertEqual(refusals(ring, (('x', 'switch'), ('y', 'read'))), ('x',))

    def test_refusals_during(self):
        own = System(('a',), (('x', 'a', 'a', OLD, NEW),))
        self.assertEqual(
            [refusals_during(own, (), ('a', (('x', 'read'), ('x', 'switch')))),
             refusals_during(own, (('x', 'read'),), ('a', (('x', 'switch'),)))],
            [('x',), ()])


if __name__ == '__main__':
    unittest.main()
