import itertools
import random
import re
import unittest

from fewreleases.errors import BadChannels, BadServices, BadText
from fewreleases.fewest import fewest_plan
from fewreleases.systems import System
from fewreleases.texts import read_plan, read_system, show_plan, show_system
from tests import models
from tests.drawn import NAMES, both_ways, drawn_plan, drawn_systems, ring_of
from tests.models import TWELVE, all_plans, big_system, one_channel_systems, system_of, two_channel_systems
from tests.samples import NEW, OLD, copied, odd_values

NAME = '[a-z]{1,8}'
FIELDS = f'(-|{NAME}(,{NAME})*)'
SERVICES_ROW = f'services( {NAME})+'
CHANNEL_ROW = f'channel( {NAME}){{3}}( {FIELDS}){{6}}'
RELEASE_ROW = rf'{NAME}( {NAME}\.(read|switch|widen|narrow))+'
LONG = ('abcdefgh', 'abcdefghi')
SIGNS = [' ', '  ', '\n', '\n\n', ',', '-', '.', 'a', 'z', 'A', '1', '_', '\t', '\r', '\x0b', '\x0c', '\u00a0', '\u2028',
         '\u00e4', '\x1c', '\x85', '', ',,', '..', ' -', '- ', 'services', 'channel']


def system_from(rows):
    """Return the system of rows, None if there is none, by patterns."""
    if not re.fullmatch(SERVICES_ROW, rows[0]) or not all(re.fullmatch(CHANNEL_ROW, row) for row in rows[1:]):
        return None
    channels = []
    for row in rows[1:]:
        word, name, sender, receiver, *rest = row.split()
        fields = [tuple(part.split(',')) if part != '-' else () for part in rest]
        channels.append((name, sender, receiver, tuple(fields[:3]), tuple(fields[3:])))
    try:
        return System(tuple(rows[0].split()[1:]), tuple(channels))
    except (BadServices, BadChannels):
        return None


def bad_system_row(text):
    """Return the first row up to which the rows do not begin the text of a system, None if there is none."""
    rows = text.split('\n')
    return next((at for at in range(len(rows)) if system_from(rows[:at + 1]) is None), None)


def bad_plan_row(system, text):
    """Return the first row up to which the rows do not begin the text of a plan, their number if steps are missing."""
    owner = models.owners(system)
    rows = text.split('\n') if text != '' else []
    for at, row in enumerate(rows):
        if not re.fullmatch(RELEASE_ROW, row):
            return at
        service, *words = row.split()
        steps = [tuple(word.split('.')) for word in words]
        if steps != sorted(set(steps)) or any(owner.pop(step, None) != service for step in steps):
            return at
    return len(rows) if owner else None


def spoiled(text, source, many):
    """Return so many texts that differ from this one in a place or two."""
    found = []
    for time in range(many):
        other = text
        for change in range(source.choice((1, 1, 2))):
            at = source.randint(0, len(other))
            behind = at + source.choice((0, 0, 1, 1, 2))
            other = other[:at] + source.choice(SIGNS) + other[behind:]
        found.append(other)
    return found


def row_changes(text):
    """Return texts with a row or a word left out, repeated or exchanged with the next one."""
    rows = text.split('\n')
    found = ['\n'.join(some) for some in changes(rows)]
    for at, row in enumerate(rows):
        found.extend('\n'.join([*rows[:at], ' '.join(some), *rows[at + 1:]]) for some in changes(row.split(' ')))
    return found


def changes(parts):
    """Return the lists with a part left out, repeated or exchanged with the next one."""
    return [other for at in range(len(parts))
            for other in (parts[:at] + parts[at + 1:], parts[:at + 1] + parts[at:],
                          parts[:at] + parts[at:at + 2][::-1] + parts[at + 2:])]


class ReadingTest(unittest.TestCase):

    def check_system(self, text):
        row = bad_system_row(text)
        if row is None:
            system = read_system(text)
            self.assertEqual(system, system_from(text.split('\n')))
            self.assertEqual(show_system(system), text)
        else:
            self.check_bad_system(text, row)

    def check_bad_system(self, text, row):
        before = copied(text)
        with self.assertRaises(BadText) as caught:
            read_system(text)
        self.assertEqual(caught.exception.row, row)
        self.assertIs(caught.exception.row.__class__, int)
        self.assertEqual(text, before)

    def check_plan(self, system, text):
        row = bad_plan_row(system, text)
        if row is None:
            self.assertEqual(show_plan(read_plan(system, text)), text)
        else:
            self.check_bad_plan(system, text, row)

    def check_bad_plan(self, system, text, row):
        before = copied(text)
        with self.assertRaises(BadText) as caught:
            read_plan(system, text)
        self.assertEqual(caught.exception.row, row)
        self.assertIs(caught.exception.row.__class__, int)
        self.assertEqual(text, before)


class SystemTextTest(ReadingTest):

    def test_written_and_read_back(self):
        systems = [row[3] for row in one_channel_systems()] + two_channel_systems() + drawn_systems(71, 100, 12, 40)
        for system in [*systems, big_system(), both_ways('abcdef'), System(('a',), ()), System(TWELVE, ())]:
            text = show_system(system)
            self.assertIs(text.__class__, str)
            self.assertEqual(read_system(text), system)
            self.check_system(text)

    def test_the_rows(self):
        self.assertEqual(show_system(System(('a',), ())), 'services a')
        self.assertEqual(show_system(System(TWELVE, ())), 'services a b c d e f g h i j k l')
        empty = ((), (), ())
        system = System(('a', 'bc'), (('x', 'bc', 'a', empty, ((), (), ('id', 'tag'))), ('yy', 'a', 'a', OLD, empty)))
        self.assertEqual(show_system(system),
                         'services a bc\nchannel x bc a - - - - - id,tag\nchannel yy a a id id id - - -')
        self.assertEqual(read_system(show_system(system)), system)

    def test_many_fields(self):
        fields = tuple('field' + letter for letter in TWELVE)
        system = System(('a',), (('x', 'a', 'a', (fields, fields, fields), ((), (), fields)),))
        self.assertEqual(read_system(show_system(system)), system)
        word = ','.join(fields)
        self.assertEqual(show_system(system), f'services a\nchannel x a a {word} {word} {word} - - {word}')
        more = word + ',fieldm'
        for at in range(6):
            words = [word, '-', word, word, '-', word]
            words[at] = more
            self.check_bad_system(f'services a\nchannel x a a {" ".join(words)}', 1)

    def test_numbers_of_services(self):
        self.assertEqual(read_system('services ' + ' '.join(TWELVE)).services, TWELVE)
        self.check_bad_system('services ' + ' '.join(TWELVE + ('m',)), 0)
        self.check_bad_system('services', 0)
        self.check_bad_system('services ', 0)

    def test_numbers_of_channels(self):
        rows = [f'channel {name} a a - - - - - -' for name in NAMES[:42]]
        for many in (0, 1, 39, 40):
            self.assertEqual(len(read_system('\n'.join(['services a', *rows[:many]])).channels), many)
        self.check_bad_system('\n'.join(['services a', *rows[:41]]), 41)
        self.check_bad_system('\n'.join(['services a', *rows[:42]]), 41)

    def test_lengths_of_names(self):
        good, wrong = LONG
        text = 'services {0}\nchannel {1} {0} {0} {2} - {2} {2} {2} {2}'
        self.assertEqual(read_system(text.format(good, good, good)).services, (good,))
        self.check_bad_system(text.format(wrong, good, good), 0)
        self.check_bad_system(text.format(good, wrong, good), 1)
        self.check_bad_system(text.format(good, good, wrong), 1)

    def test_wrong_rows(self):
        ring = show_system(ring_of('ab'))
        for text, row in (('', 0), ('\n', 0), (' ', 0), (ring + '\n', 3), (ring + '\n\n', 3), ('\n' + ring, 0),
                          (ring + ' ', 2), (' ' + ring, 0), (ring.replace('\n', ' \n', 1), 0),
                          (ring.replace('\n', '\n ', 1), 1), (ring.replace('services a', 'services  a'), 0),
                          (ring.replace('channel', 'channel ', 1), 1), (ring.replace('\n', '\r\n'), 0),
                          (ring.replace('\n', '\n\n', 1), 1), (ring.replace('services', 'Services'), 0),
                          (ring.replace('services', 'service'), 0), (ring.replace('channel', 'Channel', 1), 1),
                          ('services b a', 0), ('services a a', 0), ('services a B', 0), ('services a,b', 0),
                          (ring.split('\n', 1)[1], 0), (ring + '\n' + ring, 3), (ring + '\nservices a b', 3)):
            with self.subTest(text=text):
                self.assertEqual(bad_system_row(text), row)
                self.check_bad_system(text, row)

    def test_wrong_channels(self):
        for words in ('x a b - - - - -', 'x a b - - - - - - -', 'x a - - - - - -', 'x a c - - - - - -',
                      'x c a - - - - - -', 'X a b - - - - - -', '- a b - - - - - -', 'x a b id - - - - -',
                      'x a b id id - - - -', 'x a b - id id - - -', 'x a b - - - id id tag', 'x a b tag,id - id,tag - - -',
                      'x a b id,id - id - - -', 'x a b ,id - id - - -', 'x a b id, - id - - -', 'x a b id,- - id - - -',
                      'x a b -- - - - - -', 'x a b , - - - - -', 'x a b  - - - - -', 'x a b - - - - - Id',
                      'x a b () - - - - -', 'x a b id,,tag - id,tag - - -', 'x a b - - - - - i.d'):
            with self.subTest(words=words):
                self.check_bad_system('services a b\nchannel ' + words, 1)
        self.assertEqual(len(read_system('services a b\nchannel x a b - - - - - -').channels), 1)

    def test_channels_out_of_order(self):
        rows = [f'channel {name} a a - - - - - -' for name in ('x', 'y', 'z')]
        for order in itertools.product(rows, repeat=3):
            self.check_system('\n'.join(['services a', *order]))
        self.check_bad_system('\n'.join(['services a', rows[1], rows[1]]), 2)
        self.check_bad_system('\n'.join(['services a', rows[1], rows[2], rows[0]]), 3)

    def test_words_and_rows_changed(self):
        for system in [ring_of('abc'), *drawn_systems(72, 8, 4, 4)]:
            for text in row_changes(show_system(system)):
                self.check_system(text)

    def test_other_characters(self):
        source = random.Random(73)
        for system in drawn_systems(74, 25, 5, 5):
            for text in spoiled(show_system(system), source, 100):
                self.check_system(text)

    def test_no_strings(self):
        for value in odd_values() + [('services a',), ['services a'], {'services': 'a'}]:
            self.check_bad_system(value, 0)

    def test_by_name_and_again(self):
        system = big_system()
        self.assertEqual(show_system(system=system), show_system(system))
        self.assertEqual(read_system(text=show_system(system)), system)
        self.assertEqual(system, big_system())


class PlanTextTest(ReadingTest):

    def test_written_and_read_back(self):
        source = random.Random(75)
        for system in [*drawn_systems(76, 100, 12, 40), big_system(), both_ways('abcdef')]:
            for plan in (fewest_plan(system), drawn_plan(system, source, True), drawn_plan(system, source, False)):
                text = show_plan(plan)
                self.assertIs(text.__class__, str)
                self.assertEqual(read_plan(system, text), plan)
                self.check_plan(system, text)

    def test_all_plans_of_small_systems(self):
        for system in [row[3] for row in one_channel_systems()] + two_channel_systems()[::9]:
            if len(models.owners(system)) < 5:
                for plan in all_plans(system):
                    self.assertEqual(read_plan(system, show_plan(plan)), plan)

    def test_the_rows(self):
        plan = (('a', (('x', 'switch'), ('yy', 'read'))), ('bc', (('x', 'narrow'),)))
        self.assertEqual(show_plan(plan), 'a x.switch yy.read\nbc x.narrow')
        self.assertEqual(show_plan(plan=plan[1:]), 'bc x.narrow')

    def test_the_empty_plan(self):
        self.assertEqual(show_plan(()), '')
        for system in (System(('a',), ()), system_of('ab', ('x', 'a', 'b', 'same'))):
            self.assertEqual(read_plan(system, ''), ())
            for text in ('\n', ' ', 'a', '-', 'a x.read', '\na', 'a\n'):
                self.check_bad_plan(system, text, 0)
        self.check_bad_plan(ring_of('ab'), '', 0)

    def test_missing_steps(self):
        ring = ring_of('abc')
        rows = show_plan(fewest_plan(ring)).split('\n')
        for many in range(len(rows)):
            self.check_bad_plan(ring, '\n'.join(rows[:many]), many)
        self.assertEqual(read_plan(ring, '\n'.join(rows)), fewest_plan(ring))

    def test_wrong_rows(self):
        system = system_of('ab', ('x', 'a', 'b', 'split'), ('y', 'b', 'a', 'reader'))
        good = 'b x.widen\na x.switch y.read\nb x.narrow y.switch'
        self.assertEqual(len(read_plan(system, good)), 3)
        for text, row in ((good + '\n', 3), ('\n' + good, 0), (good + '\n' + good, 3), (good + '\nb x.narrow', 3),
                          (good.replace('\n', '\n\n', 1), 1), (good + ' ', 2), (' ' + good, 0),
                          (good.replace('x.switch y', 'x.switch  y'), 1), (good.replace('\n', ' \n', 1), 0),
                          (good.replace('x.switch y.read', 'y.read x.switch'), 1), (good.replace('a x', 'b x', 1), 1),
                          (good.replace('b x.widen\n', 'b\n'), 0), (good.replace('b x.widen', 'b x.widen x.widen'), 0),
                          (good.replace('b x.widen', 'c x.widen'), 0), (good.replace('b x.widen', 'x.widen'), 0),
                          (good.replace('x.switch', 'x.read'), 1), (good.replace('x.narrow', 'x.widen'), 2),
                          (good.replace('x.narrow', 'x.narrow.'), 2), (good.replace('x.narrow', '.narrow'), 2),
                          (good.replace('x.narrow', 'xnarrow'), 2), (good.replace('x.narrow', 'x.Narrow'), 2),
                          (good.replace('x.narrow', 'x,narrow'), 2), (good.replace('x.narrow', 'z.narrow'), 2),
                          (good.replace('x.narrow ', ''), 3), (good.replace('y.read', 'y.read y.read'), 1),
                          (good.replace('y.read', 'y.read.y'), 1), (good.replace('\n', '\r\n'), 0)):
            with self.subTest(text=text):
                self.assertEqual(bad_plan_row(system, text), row)
                self.check_bad_plan(system, text, row)

    def test_words_and_rows_changed(self):
        source = random.Random(77)
        for system in [ring_of('abc'), *drawn_systems(78, 12, 4, 4)]:
            for text in row_changes(show_plan(drawn_plan(system, source, False))):
                self.check_plan(system, text)

    def test_other_characters(self):
        source = random.Random(79)
        for system in drawn_systems(80, 25, 5, 5):
            for text in spoiled(show_plan(drawn_plan(system, source, False)), source, 100):
                self.check_plan(system, text)

    def test_no_strings(self):
        for system in (ring_of('ab'), System(('a',), ())):
            for value in odd_values() + [(), ('a x.read',), ['a x.read'], {'a': 'x.read'}, fewest_plan(ring_of('ab'))]:
                if value == '':
                    self.check_plan(system, value)
                else:
                    self.check_bad_plan(system, value, 0)

    def test_by_name_and_again(self):
        ring = ring_of('abc')
        plan = fewest_plan(ring)
        before = copied(plan)
        self.assertEqual(read_plan(text=show_plan(plan), system=ring), plan)
        self.assertEqual(plan, before)
        self.assertEqual(ring, ring_of('abc'))


class ExamplesTest(unittest.TestCase):

    def setUp(self):
        self.ring = System(('a', 'b'), (('x', 'a', 'b', OLD, NEW), ('y', 'b', 'a', OLD, NEW)))

    def test_show_system(self):
        self.assertEqual(show_system(self.ring), 'services a b\nchannel x a b id id id id,tag id id,tag\n'
                                                 'channel y b a id id id id,tag id id,tag')

    def test_read_plan(self):
        with self.assertRaises(BadText) as caught:
            read_plan(self.ring, 'a x.switch y.read')
        self.assertEqual(caught.exception.row, 1)


if __name__ == '__main__':
    unittest.main()
