import itertools
import unittest

from fewreleases.fields import accepts, is_fields, is_format, is_reader, widened
from tests.samples import copied, nested, odd_values, wraps

TWELVE = tuple('abcdefghijkl')
THIRTEEN = tuple('abcdefghijklm')
OTHER_TWELVE = tuple('mnopqrstuvwx')


def all_fields():
    """Return all fields over three names."""
    return [fields for size in range(4) for fields in itertools.combinations('abc', size)]


def all_readers():
    """Return all readers over three names, by sets."""
    return [pair for pair in itertools.product(all_fields(), repeat=2) if set(pair[0]) <= set(pair[1])]


def set_accepts(reader, written):
    """Say by sets whether a reader accepts fields."""
    return set(reader[0]) <= set(written) <= set(reader[1])


class IsFieldsTest(unittest.TestCase):

    def test_names(self):
        for name in ('a', 'z', 'id', 'abcdefgh', 'zzzzzzzz'):
            self.assertIs(is_fields((name,)), True)
        for name in ('', 'abcdefghi', 'A', 'aA', 'a1', '1', 'a b', ' ', 'a\n', '\n', 'a_b', 'a-b', '`', '{',
                     '\u00df', '\u00e9', '\uff41', '\u0430', '\ud800'):
            self.assertIs(is_fields((name,)), False, repr(name))

    def test_every_character(self):
        for code in range(0x3000):
            fits = ord('a') <= code <= ord('z')
            self.assertIs(is_fields((chr(code),)), fits, code)
            self.assertIs(is_fields(('x' + chr(code),)), fits, code)

    def test_number_of_fields(self):
        self.assertIs(is_fields(()), True)
        self.assertIs(is_fields(TWELVE), True)
        self.assertIs(is_fields(THIRTEEN), False)

    def test_order(self):
        self.assertIs(is_fields(('a', 'aa', 'ab', 'b')), True)
        self.assertIs(is_fields(('aa', 'a')), False)
        self.assertIs(is_fields(('b', 'aa')), False)
        self.assertIs(is_fields(('a', 'c', 'b')), False)
        self.assertIs(is_fields(('a', 'a')), False)
        self.assertIs(is_fields(('a', 'b', 'b')), False)
        self.assertIs(is_fields(('a', 'b', 'a')), False)

    def test_not_tuples_of_names(self):
        for value in (['a'], [], {}, {'a': 1}, 'a', 'ab', '', 0, 1, True, False, None, (('a',),), (['a'],),
                      ('a', 1), (1, 'a'), ('a', None), (True,), (0, 1)):
            self.assertIs(is_fields(value), False, repr(value))


class IsReaderTest(unittest.TestCase):

    def test_all_small_pairs(self):
        for needs, knows in itertools.product(all_fields(), repeat=2):
            self.assertIs(is_reader((needs, knows)), set(needs) <= set(knows))

    def test_number_of_fields(self):
        self.assertIs(is_reader((TWELVE, TWELVE)), True)
        self.assertIs(is_reader(((), TWELVE)), True)
        self.assertIs(is_reader((THIRTEEN, THIRTEEN)), False)
        self.assertIs(is_reader(((), THIRTEEN)), False)

    def test_a_wide_reader_may_be_too_wide(self):
        wide = widened(((), TWELVE), ((), ('m',)))
        self.assertIs(is_reader(wide), False)

    def test_parts(self):
        for value in ((), ((),), ((), (), ()), [(), ()], ([], ()), ((), []), ({}, ()), ((), {}), ('', ''), 'ab',
                      ('a', 'ab'), ('', ('a',)), (('b', 'a'), ('a', 'b')), (('a',), ('b', 'a')), (('a', 'a'), ('a',)),
                      (None, None), (0, 1), {'a': (), 'b': ()}, {(): ()}, (('a',), ['a']), (('A',), ('A',))):
            self.assertIs(is_reader(value), False, repr(value))


class IsFormatTest(unittest.TestCase):

    def test_all_small_triples(self):
        for written, needs, knows in itertools.product(all_fields(), repeat=3):
            fits = set(needs) <= set(written) <= set(knows)
            self.assertIs(is_format((written, needs, knows)), fits)

    def test_number_of_fields(self):
        self.assertIs(is_format((TWELVE, TWELVE, TWELVE)), True)
        self.assertIs(is_format(((), (), TWELVE)), True)
        self.assertIs(is_format((THIRTEEN, (), THIRTEEN)), False)
        self.assertIs(is_format(((), (), THIRTEEN)), False)

    def test_parts(self):
        for value in ((), ((),), ((), ()), ((), (), (), ()), [(), (), ()], ([], (), ()), ((), [], ()), ((), (), []),
                      ('', '', ''), 'abc', ('a', 'a', 'a'), ('a', (), ('a',)), (('a',), (), 'a'),
                      (('b', 'a'), (), ('a', 'b')), (('a', 'a'), (), ('a',)), (('a',), (), ('b', 'a')),
                      (None, None, None), (0, 0, 0), {(): ()}, ((), ((), ()))):
            self.assertIs(is_format(value), False, repr(value))


class AnyValueTest(unittest.TestCase):

    def test_odd_values(self):
        for at, value in enumerate(odd_values()):
            with self.subTest(at=at):
                before = copied(value)
                self.assertIs(is_fields(value), False)
                self.assertIs(is_reader(value), False)
                self.assertIs(is_format(value), False)
                self.assertEqual(value, before)

    def test_odd_values_as_parts(self):
        for at, value in enumerate(odd_values()):
            with self.subTest(at=at):
                self.assertIs(is_fields((value,)), False)
                self.assertIs(is_fields(('a', value)), False)
                self.assertIs(is_reader((value, ('a', 'b'))), False)
                self.assertIs(is_reader(((), value)), False)
                self.assertIs(is_format((value, (), ('a', 'b'))), False)
                self.assertIs(is_format(((), value, ('a', 'b'))), False)
                self.assertIs(is_format(((), (), value)), False)

    def test_every_depth(self):
        for wrap in wraps()[:4]:
            for depth in range(3, 21):
                value = nested('a', wrap, depth)
                self.assertIs(is_fields(value), False)
                self.assertIs(is_reader(value), False)
                self.assertIs(is_format(value), False)


class AcceptsTest(unittest.TestCase):

    def test_all_small_ones(self):
        for reader, written in itertools.product(all_readers(), all_fields()):
            self.assertIs(accepts(reader, written), set_accepts(reader, written))

    def test_nothing_and_everything(self):
        self.assertIs(accepts(((), ()), ()), True)
        self.assertIs(accepts(((), ()), ('a',)), False)
        self.assertIs(accepts(((), TWELVE), ()), True)
        self.assertIs(accepts(((), TWELVE), TWELVE), True)
        self.assertIs(accepts((TWELVE, TWELVE), TWELVE), True)
        self.assertIs(accepts((TWELVE, TWELVE), TWELVE[:-1]), False)
        self.assertIs(accepts((TWELVE, TWELVE), TWELVE[1:]), False)
        self.assertIs(accepts(((), TWELVE), ('m',)), False)

    def test_wide_reader_of_24_fields(self):
        wide = widened(((), TWELVE), ((), OTHER_TWELVE))
        self.assertEqual(len(wide[1]), 24)
        for written in ((), TWELVE, OTHER_TWELVE, ('a', 'm'), ('l', 'x'), TWELVE[6:] + OTHER_TWELVE[:6]):
            self.assertIs(accepts(wide, written), True)
        self.assertIs(accepts(wide, ('a', 'm', 'z')), False)
        self.assertIs(accepts((('a',), wide[1]), ('a', 'x')), True)
        self.assertIs(accepts((('a',), wide[1]), ('b', 'x')), False)

    def test_names_with_equal_beginnings(self):
        self.assertIs(accepts(((), ('ab',)), ('a',)), False)
        self.assertIs(accepts((('a',), ('a', 'ab')), ('ab',)), False)

    def test_by_name(self):
        self.assertIs(accepts(written=('a',), reader=((), ('a',))), True)
        self.assertIs(is_fields(value=()), True)
        self.assertIs(is_reader(value=((), ())), True)
        self.assertIs(is_format(value=((), (), ())), True)


class WidenedTest(unittest.TestCase):

    def test_all_small_ones(self):
        for reader, other in itertools.product(all_readers(), repeat=2):
            wide = widened(reader, other)
            needs = tuple(sorted(set(reader[0]) & set(other[0])))
            knows = tuple(sorted(set(reader[1]) | set(other[1])))
            self.assertEqual(wide, (needs, knows))
            self.assertEqual(wide, widened(other, reader))
            for written in all_fields():
                if accepts(reader, written) or accepts(other, written):
                    self.assertIs(accepts(wide, written), True)

    def test_with_itself(self):
        for reader in [*all_readers(), (TWELVE, TWELVE), ((), TWELVE), (('c', 'e'), TWELVE)]:
            self.assertEqual(widened(reader, reader), reader)

    def test_tuples(self):
        wide = widened((('b',), ('b', 'd')), (('b', 'c'), ('a', 'b', 'c')))
        self.assertEqual(wide, (('b',), ('a', 'b', 'c', 'd')))
        self.assertIsInstance(wide, tuple)
        self.assertIsInstance(wide[0], tuple)
        self.assertIsInstance(wide[1], tuple)

    def test_twice_twelve(self):
        wide = ((), tuple('abcdefghijklmnopqrstuvwx'))
        self.assertEqual(widened((OTHER_TWELVE, OTHER_TWELVE), (TWELVE, TWELVE)), wide)
        self.assertEqual(widened((TWELVE, TWELVE), (OTHER_TWELVE, OTHER_TWELVE)), wide)

    def test_by_name(self):
        wide = widened(other=(('a',), ('a',)), reader=((), ('b',)))
        self.assertEqual(wide, ((), ('a', 'b')))


class ExamplesTest(unittest.TestCase):

    def test_is_fields_is_reader_is_format(self):
        self.assertEqual(
            [is_fields(('id', 'tag')), is_fields(('tag', 'id')), is_reader((('id',), ())),
             is_format((('id',), (), ('id',)))],
            [True, False, False, True])

    def test_accepts(self):
        self.assertEqual(
            [accepts((('id',), ('id', 'tag')), ('id',)), accepts((('id',), ('id',)), ('id', 'tag'))],
            [True, False])

    def test_widened(self):
        self.assertEqual(
            widened((('id', 'tag'), ('id', 'tag')), (('id',), ('id', 'mark'))),
            (('id',), ('id', 'mark', 'tag')))


if __name__ == '__main__':
    unittest.main()
