import itertools
import unittest

from fewreleases.errors import BadChannels, BadServices, NoChannel
from fewreleases.systems import System, channel_of, exchanged, kind_of
from tests.samples import NAMED, NEW, OLD, TITLED, copied, nested, odd_values, part_at, paths, replaced, wraps

PLAIN = ((), (), ())
TWELVE = tuple('abcdefghijkl')
CHANNELS = (('x', 'a', 'b', OLD, NEW), ('y', 'b', 'a', NAMED, TITLED), ('z', 'b', 'b', OLD, OLD))


def many_channels(count):
    """Return channels with ascending names."""
    names = [first + second for first in 'abcde' for second in 'abcdefghij'][:count]
    return tuple((name, 'a', 'b', OLD, NEW) for name in names)


def all_formats(names):
    """Return all formats over these names."""
    fields = [some for size in range(len(names) + 1) for some in itertools.combinations(names, size)]
    return [(written, needs, knows) for written, needs, knows in itertools.product(fields, repeat=3)
            if set(needs) <= set(written) <= set(knows)]


def set_accepts(reading, writing):
    """Say by sets whether the reader of one format accepts what the other one writes."""
    return set(reading[1]) <= set(writing[0]) <= set(reading[2])


class SystemCase(unittest.TestCase):

    def assert_bad_services(self, services, channels=()):
        with self.assertRaises(BadServices) as caught:
            System(services, channels)
        self.assertIs(caught.exception.value, services)

    def assert_bad_channels(self, channels, services=('a', 'b')):
        with self.assertRaises(BadChannels) as caught:
            System(services, channels)
        self.assertIs(caught.exception.value, channels)

    def assert_no_channel(self, system, name):
        for function in (channel_of, kind_of):
            with self.assertRaises(NoChannel) as caught:
                function(system, name)
            self.assertIs(caught.exception.name, name)


class ServicesTest(SystemCase):

    def test_attributes(self):
        system = System(('a', 'b'), CHANNELS)
        self.assertEqual(system.services, ('a', 'b'))
        self.assertEqual(system.channels, CHANNELS)
        system = System(channels=(), services=('abcdefgh',))
        self.assertEqual((system.services, system.channels), (('abcdefgh',), ()))

    def test_number_of_services(self):
        self.assertEqual(System(('a',), ()).services, ('a',))
        self.assertEqual(System(TWELVE, ()).services, TWELVE)
        self.assert_bad_services(())
        self.assert_bad_services(TWELVE + ('m',))

    def test_names_and_order(self):
        for services in (('b', 'a'), ('a', 'a'), ('a', 'b', 'b'), ('a', 'c', 'b'), ('',), ('abcdefghi',), ('A',),
                         ('a', 'b1'), ('a', '\u00e4'), ['a'], ['a', 'b'], 'a', 'ab', {'a': 'b'}, {}, [], None, 1,
                         True, ('a', 1), ('a', None), (('a',),), ('a', ['b'])):
            self.assert_bad_services(services)

    def test_any_value(self):
        for at, value in enumerate(odd_values()):
            with self.subTest(at=at):
                before = copied(value)
                self.assert_bad_services(value)
                self.assert_bad_services((value,))
                self.assert_bad_services(('a', value))
                self.assertEqual(value, before)

    def test_services_before_channels(self):
        for at, value in enumerate(odd_values()):
            with self.subTest(at=at):
                self.assert_bad_services(('b', 'a'), value)
                self.assert_bad_services(value, value)
                self.assert_bad_services((), (('x', 'a', 'a', OLD, NEW),))


class ChannelsTest(SystemCase):

    def test_number_of_channels(self):
        self.assertEqual(System(('a', 'b'), ()).channels, ())
        self.assertEqual(System(('a', 'b'), many_channels(40)).channels, many_channels(40))
        self.assert_bad_channels(many_channels(41))

    def test_order_of_names(self):
        channels = many_channels(3)
        self.assertEqual(System(('a', 'b'), channels).channels, channels)
        for order in itertools.permutations(channels):
            if order != channels:
                self.assert_bad_channels(order)
        prefix = (('a', 'a', 'b', OLD, NEW), ('aa', 'a', 'b', OLD, NEW), ('b', 'a', 'b', OLD, NEW))
        self.assertEqual(System(('a', 'b'), prefix).channels, prefix)

    def test_order_is_by_name_only(self):
        channels = (('x', 'b', 'b', NEW, NEW), ('y', 'a', 'a', OLD, OLD))
        self.assertEqual(System(('a', 'b'), channels).channels, channels)

    def test_equal_names(self):
        self.assert_bad_channels((('x', 'a', 'b', OLD, NEW), ('x', 'a', 'b', OLD, NEW)))
        self.assert_bad_channels((('x', 'a', 'a', OLD, NEW), ('x', 'b', 'b', OLD, NEW)))
        self.assert_bad_channels((('w', 'a', 'a', OLD, OLD), ('x', 'a', 'b', OLD, NEW), ('x', 'b', 'a', OLD, NEW)))

    def test_senders_and_receivers(self):
        for sender, receiver in itertools.product('ab', repeat=2):
            channels = (('x', sender, receiver, OLD, NEW),)
            self.assertEqual(System(('a', 'b'), channels).channels, channels)
        for sender, receiver in (('c', 'a'), ('a', 'c'), ('c', 'c'), ('ab', 'a'), ('a', 'ab'), ('', 'a'), ('a', '')):
            self.assert_bad_channels((('x', sender, receiver, OLD, NEW),))
        self.assert_bad_channels((('x', 'a', 'b', OLD, NEW),), ('a',))
        self.assert_bad_channels((('x', 'a', 'b', OLD, NEW),), ('ab',))

    def test_a_channel_may_have_the_name_of_a_service(self):
        channels = (('a', 'a', 'b', OLD, NEW),)
        self.assertEqual(System(('a', 'b'), channels).channels, channels)

    def test_names(self):
        for name in ('abcdefgh', 'x'):
            self.assertEqual(System(('a',), ((name, 'a', 'a', OLD, NEW),)).channels[0][0], name)
        for name in ('', 'abcdefghi', 'X', 'x1', 'x y', 'x\n'):
            self.assert_bad_channels(((name, 'a', 'a', OLD, NEW),))

    def test_number_of_parts(self):
        self.assert_bad_channels(((),))
        self.assert_bad_channels((('x', 'a', 'b', OLD),))
        self.assert_bad_channels((('x', 'a', 'b', OLD, NEW, NEW),))
        self.assert_bad_channels(('x', 'a', 'b', OLD, NEW))

    def test_formats(self):
        for wrong in ((('a',), (), ()), ((), ('a',), ('a',)), ((), ('a',), ()), (('a',), ('b',), ('a', 'b')), ((), ()),
                      ((), (), (), ()), (('b', 'a'), (), ('a', 'b')), ('a', 'a', 'a'), ((), (), tuple('abcdefghijklm'))):
            self.assert_bad_channels((('x', 'a', 'b', wrong, PLAIN),))
            self.assert_bad_channels((('x', 'a', 'b', PLAIN, wrong),))
        full = (TWELVE, TWELVE, TWELVE)
        self.assertEqual(System(('a',), (('x', 'a', 'a', full, PLAIN),)).channels[0][3], full)

    def test_any_value_at_any_depth(self):
        values = odd_values()
        for path in paths(CHANNELS):
            for at, value in enumerate(values):
                with self.subTest(path=path, at=at):
                    self.assert_bad_channels(replaced(CHANNELS, path, value))

    def test_the_very_value_is_unchanged(self):
        for at, value in enumerate(odd_values()):
            with self.subTest(at=at):
                channels = (('x', 'a', 'b', OLD, value),)
                before = copied(channels)
                self.assert_bad_channels(channels)
                self.assertEqual(channels, before)

    def test_lists_in_the_place_of_tuples(self):
        for path in paths(CHANNELS):
            part = part_at(CHANNELS, path)
            if isinstance(part, tuple):
                with self.subTest(path=path):
                    self.assert_bad_channels(replaced(CHANNELS, path, list(part)))
        self.assert_bad_channels([])

    def test_every_depth(self):
        for wrap in wraps()[:4]:
            for depth in range(1, 20):
                self.assert_bad_channels(nested('a', wrap, depth))
                self.assert_bad_channels((('x', 'a', 'b', OLD, nested('a', wrap, depth)),))


class EqualityTest(SystemCase):

    def test_equal_systems(self):
        system = System(('a', 'b'), CHANNELS)
        self.assertIs(system == System(tuple(['a', 'b']), tuple(list(CHANNELS))), True)
        self.assertIs(system != System(('a', 'b'), copied(CHANNELS)), False)
        self.assertIs(system == system, True)

    def test_unequal_systems(self):
        system = System(('a', 'b'), CHANNELS)
        others = [System(('a', 'b', 'c'), CHANNELS), System(('a', 'b'), CHANNELS[:2]), System(('a', 'b'), ()),
                  System(('a', 'b'), (('x', 'a', 'b', OLD, OLD),) + CHANNELS[1:]),
                  System(('a', 'b'), (('w', 'a', 'b', OLD, NEW),) + CHANNELS[1:]),
                  System(('a', 'b'), (('x', 'b', 'b', OLD, NEW),) + CHANNELS[1:])]
        for other in others:
            self.assertIs(system == other, False)
            self.assertIs(other == system, False)
            self.assertIs(system != other, True)

    def test_any_other_value(self):
        system = System(('a', 'b'), CHANNELS)
        for at, value in enumerate([*odd_values(), (), (('a', 'b'), CHANNELS), [('a', 'b'), CHANNELS], 'a', ('a', 'b'),
                                    {'services': ('a', 'b'), 'channels': CHANNELS}]):
            with self.subTest(at=at):
                self.assertIs(system == value, False)
                self.assertIs(value == system, False)
                self.assertIs(system != value, True)

    def test_an_object_with_the_same_attributes(self):
        class Alike:
            services = ('a', 'b')
            channels = CHANNELS
        self.assertIs(System(('a', 'b'), CHANNELS) == Alike(), False)

    def test_defined_in_the_class(self):
        self.assertIn('__init__', vars(System))
        self.assertIn('__eq__', vars(System))


class ChannelOfTest(SystemCase):

    def test_every_channel(self):
        system = System(('a', 'b'), many_channels(40))
        for channel in many_channels(40):
            self.assertEqual(channel_of(system, channel[0]), channel)
        self.assertEqual(channel_of(name='aa', system=system), many_channels(1)[0])

    def test_other_names(self):
        system = System(('a', 'b'), CHANNELS)
        for name in ('a', 'b', 'w', 'xx', 'X', ' x', 'x ', ('x',), ['x'], {'x': 'x'}, ('x', 'y'), CHANNELS[0], CHANNELS):
            self.assert_no_channel(system, name)
        self.assert_no_channel(System(('a',), ()), 'x')

    def test_any_value(self):
        system = System(('a', 'b'), CHANNELS)
        for at, value in enumerate(odd_values()):
            with self.subTest(at=at):
                before = copied(value)
                self.assert_no_channel(system, value)
                self.assertEqual(value, before)
        for wrap in wraps()[:4]:
            for depth in range(1, 21):
                self.assert_no_channel(system, nested('x', wrap, depth))


class KindOfTest(SystemCase):

    def test_all_small_channels(self):
        kinds = {(True, True): 'free', (False, True): 'reader first', (True, False): 'writer first',
                 (False, False): 'split'}
        seen = set()
        for old, new in itertools.product(all_formats('fgh'), repeat=2):
            kind = kinds[set_accepts(old, new), set_accepts(new, old)]
            seen.add(kind)
            system = System(('a', 'b'), (('x', 'a', 'b', old, new), ('y', 'b', 'b', old, new)))
            self.assertEqual(kind_of(system, 'x'), kind)
            self.assertEqual(kind_of(system, 'y'), kind)
        self.assertEqual(len(seen), 4)

    def test_each_kind(self):
        lax = (('id',), (), ('id', 'tag'))
        lax_new = (('id', 'tag'), (), ('id', 'tag'))
        for old, new, kind in ((OLD, OLD, 'free'), (lax, lax_new, 'free'), (OLD, NEW, 'reader first'),
                               (NEW, OLD, 'writer first'), (NAMED, TITLED, 'split')):
            for sender, receiver in itertools.product('ab', repeat=2):
                system = System(('a', 'b'), (('x', sender, receiver, old, new),))
                self.assertEqual(kind_of(system, 'x'), kind)
                self.assertEqual(kind_of(name='x', system=system), kind)

    def test_kind_of_the_named_channel(self):
        system = System(('a', 'b'), CHANNELS)
        self.assertEqual([kind_of(system, name) for name in 'xyz'], ['reader first', 'split', 'free'])


class ExchangedTest(SystemCase):

    def test_formats(self):
        system = System(('a', 'b', 'c'), CHANNELS)
        other = exchanged(system)
        self.assertEqual(other.services, ('a', 'b', 'c'))
        self.assertEqual(other.channels, (('x', 'a', 'b', NEW, OLD), ('y', 'b', 'a', TITLED, NAMED),
                                          ('z', 'b', 'b', OLD, OLD)))
        self.assertIsInstance(other, System)
        self.assertIsInstance(other.channels, tuple)

    def test_the_first_system_does_not_change(self):
        system = System(('a', 'b'), CHANNELS)
        exchanged(system)
        self.assertEqual((system.services, system.channels), (('a', 'b'), CHANNELS))

    def test_twice(self):
        for channels in ((), CHANNELS, many_channels(40)):
            system = System(('a', 'b'), channels)
            self.assertEqual(exchanged(exchanged(system)), system)
            self.assertEqual(exchanged(system=system) == system, channels == ())

    def test_kinds(self):
        turned = {'free': 'free', 'reader first': 'writer first', 'writer first': 'reader first', 'split': 'split'}
        for old, new in itertools.product(all_formats('fg'), repeat=2):
            system = System(('a',), (('x', 'a', 'a', old, new),))
            self.assertEqual(kind_of(exchanged(system), 'x'), turned[kind_of(system, 'x')])


class ExamplesTest(SystemCase):

    def setUp(self):
        self.ring = System(('a', 'b'), (('x', 'a', 'b', OLD, NEW), ('y', 'b', 'a', OLD, NEW)))

    def test_system(self):
        with self.assertRaises(BadServices) as caught:
            System(('b', 'a'), ())
        self.assertEqual(caught.exception.value, ('b', 'a'))

    def test_channel_of_and_kind_of(self):
        self.assertEqual([kind_of(self.ring, 'x'), channel_of(self.ring, 'y')[:3]], ['reader first', ('y', 'b', 'a')])

    def test_split(self):
        title = System(('a', 'b'), (('z', 'a', 'b', (('name',), ('name',), ('name',)),
                                     (('title',), ('title',), ('title',))),))
        self.assertEqual(kind_of(title, 'z'), 'split')

    def test_exchanged(self):
        self.assertEqual(kind_of(exchanged(self.ring), 'x'), 'writer first')


if __name__ == '__main__':
    unittest.main()
