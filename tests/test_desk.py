import random
import re
import unittest

from fewreleases.desk import Desk
from fewreleases.errors import BadLine, BadText, Fault, FewError, NoChannel, NoService, NothingToUndo, NotSteps
from fewreleases.fewest import fewest_split
from fewreleases.graph import edges, forced
from fewreleases.rollout import Rollout
from fewreleases.systems import System, kind_of
from fewreleases.texts import show_plan, show_system
from fewreleases.waves import fewest_waves
from tests.drawn import drawn_plan, drawn_systems, ring_of
from tests.models import TWELVE, big_system, four_kinds
from tests.samples import copied, nested, odd_values, wraps

NAME = '[a-z]{1,8}'
STEP = rf'{NAME}\.(read|switch|widen|narrow)'
FORMS = re.compile(rf'undo|done|left|fewest|count|edges|forced|split|waves|(ready|kind) {NAME}|release {NAME}( {STEP})+')
SIGNS = [' ', '  ', '\n', '.', ',', 'a', 'z', 'A', '1', '-', '_', '\t', '\r', '\u00a0', '\u00e4', '', '>', ':', 'x.read',
         ' x.read', ' undo', 'done ', ' a', '.read', 'abcdefghi']


def has_form(line):
    """Say by patterns whether a line has one of the forms."""
    if not FORMS.fullmatch(line):
        return False
    steps = [tuple(word.split('.')) for word in line.split() if '.' in word]
    return steps == sorted(set(steps))


def words_of(steps):
    """Return the words of steps."""
    return ' '.join('.'.join(step) for step in steps) or '-'


def answer(rollout, line):
    """Return what a line with one of the forms gives, by the functions and methods; the rollout changes."""
    word, *others = line.split()
    system = rollout.system
    if word == 'release':
        rollout.release(others[0], tuple(tuple(step.split('.')) for step in others[1:]))
        return 'done'
    if word == 'undo':
        return show_plan((rollout.undo(),))
    return {
        'done': lambda: words_of(rollout.done_steps()),
        'left': lambda: words_of(rollout.left_steps()),
        'ready': lambda: words_of(rollout.ready_steps(others[0])),
        'fewest': lambda: str(rollout.fewest_left()),
        'count': lambda: str(len(rollout)),
        'kind': lambda: kind_of(system, others[0]),
        'edges': lambda: ' '.join(f'{start}>{end}' for start, end in edges(system)) or '-',
        'forced': lambda: ' '.join(f'{service}:{number}' for service, number in forced(system)) or '-',
        'split': lambda: ' '.join(fewest_split(system)) or '-',
        'waves': lambda: str(fewest_waves(system)),
    }[word]()


def questions(system):
    """Return all lines that change nothing."""
    lines = ['done', 'left', 'fewest', 'count', 'edges', 'forced', 'split', 'waves']
    return lines + [f'ready {service}' for service in system.services] + [f'kind {row[0]}' for row in system.channels]


def outcome(ask, line):
    """Return what asking a line returns, or the error with its attributes."""
    try:
        return ask(line)
    except FewError as error:
        return (error.__class__, vars(error))


class DeskTest(unittest.TestCase):

    def check_bad(self, desk, line):
        before = copied(line)
        states = [desk.say(question) for question in ('done', 'left', 'count')]
        with self.assertRaises(BadLine) as caught:
            desk.say(line)
        self.assertIs(caught.exception.line, line)
        self.assertEqual(line, before)
        self.assertEqual([desk.say(question) for question in ('done', 'left', 'count')], states)

    def check_line(self, desk, rollout, line):
        """Say a line, and do the same to a rollout."""
        if not has_form(line):
            self.check_bad(desk, line)
        else:
            self.assertEqual(outcome(desk.say, line), outcome(lambda words: answer(rollout, words), line), line)
            self.assertEqual([desk.say('done'), desk.say('count')],
                             [words_of(rollout.done_steps()), str(len(rollout))])

    def check_all(self, desk, rollout):
        for line in questions(rollout.system):
            self.assertEqual(desk.say(line), answer(rollout, line))

    def test_whole_rollouts(self):
        source = random.Random(91)
        for system in [four_kinds(), ring_of(TWELVE), big_system(), *drawn_systems(92, 30, 6, 8)]:
            desk, rollout = Desk(show_system(system)), Rollout(system)
            self.check_all(desk, rollout)
            for release in drawn_plan(system, source, True)[:15]:
                line = 'release ' + show_plan((release,))
                self.assertEqual(desk.say(line), 'done')
                rollout.release(*release)
                self.check_all(desk, rollout)
                if source.random() < 0.3:
                    self.assertEqual(desk.say('undo'), show_plan((rollout.undo(),)))
                    self.check_all(desk, rollout)
                    desk.say(line)
                    rollout.release(*release)
            for time in range(len(rollout)):
                self.assertEqual(desk.say('undo'), show_plan((rollout.undo(),)))
            self.check_all(desk, rollout)

    def test_plans_that_are_not_safe(self):
        source = random.Random(93)
        for system in [four_kinds(), *drawn_systems(94, 60, 5, 6)]:
            desk, rollout = Desk(show_system(system)), Rollout(system)
            for release in drawn_plan(system, source, False):
                self.check_line(desk, rollout, 'release ' + show_plan((release,)))

    def test_spoiled_lines(self):
        source = random.Random(95)
        desk, rollout = Desk(show_system(four_kinds())), Rollout(four_kinds())
        lines = questions(four_kinds()) + ['undo', 'release b x.widen', 'release b x.widen y.switch', 'release a v.switch',
                                      'release c v.read w.read', 'release c w.switch', 'release a x.switch y.read']
        for time in range(6000):
            line = source.choice(lines)
            for change in range(source.choice((0, 1, 1, 2))):
                at = source.randint(0, len(line))
                line = line[:at] + source.choice(SIGNS) + line[at + source.choice((0, 0, 1, 2)):]
            self.check_line(desk, rollout, line)

    def test_words_left_out_repeated_and_inserted(self):
        desk, rollout = Desk(show_system(four_kinds())), Rollout(four_kinds())
        for line in questions(four_kinds()) + ['undo', 'release b x.widen', 'release c v.read w.read']:
            words = line.split()
            for at in range(len(words) + 1):
                self.check_line(desk, rollout, ' '.join(words[:at] + words[at + 1:]))
                self.check_line(desk, rollout, ' '.join(words[:at + 1] + words[at:]))
                for other in ('', 'a', 'x', 'done', 'x.widen', 'y.switch', 'v.read', '-', 'A'):
                    self.check_line(desk, rollout, ' '.join(words[:at] + [other] + words[at:]))

    def test_lines_without_a_form(self):
        desk = Desk(show_system(four_kinds()))
        for line in ('', ' ', '\n', 'Done', 'done ', ' done', 'done\n', 'done done', 'done a', 'undo 1', 'fewest a',
                     'count -', 'edges a', 'split a', 'waves 1', 'forced a', 'left a', 'ready', 'ready ', 'ready a b',
                     'ready  a', 'ready A', 'ready -', 'ready abcdefghi', 'ready a.b', 'kind', 'kind v w', 'kind V',
                     'kind abcdefghi', 'kind x.read', 'release', 'release a', 'release a ', 'release x.switch',
                     'release a x', 'release a x.', 'release a .switch', 'release a x.turn', 'release a x.Switch',
                     'release a x.switch ', 'release a  x.switch', 'release A x.switch', 'release abcdefghi x.switch',
                     'release a abcdefghi.switch', 'release a x.switch x.switch', 'release a y.read x.switch',
                     'release a x.switch.read', 'release a x,switch', 'release b x.widen x.narrow',
                     'release a v.switch\nx.switch', 'Release a x.switch', 'releases a x.switch', 'finish', 'copy',
                     'services a', 'release a -', 'release - x.switch', 'ready a\n', 'kind v\r', 'release a X.switch'):
            with self.subTest(line=line):
                self.check_bad(desk, line)

    def test_values_that_are_no_strings(self):
        desk = Desk(show_system(four_kinds()))
        values = odd_values() + [('done',), ['done'], {'done': 'done'}, [], {}, (), ('release', 'a', 'x.switch')]
        values += [nested('done', wrap, depth) for wrap in wraps()[:4] for depth in range(1, 21)]
        for value in values:
            self.check_bad(desk, value)

    def test_bad_line_before_anything_else(self):
        desk = Desk(show_system(four_kinds()))
        for line in ('release d x.widen x.narrow', 'ready dd ', 'kind dd dd', 'undo undo', 'release d x.turn'):
            self.check_bad(desk, line)

    def test_errors_of_functions_and_methods(self):
        desk = Desk(show_system(four_kinds()))
        desk.say('release b x.widen')
        states = [desk.say(line) for line in questions(four_kinds())]
        for line, kind, values in (
                ('release d x.switch', NoService, {'service': 'd'}),
                ('release d q.read', NoService, {'service': 'd'}),
                ('ready services', NoService, {'service': 'services'}),
                ('release a q.read', NotSteps, {'value': (('q', 'read'),)}),
                ('release a x.widen', NotSteps, {'value': (('x', 'widen'),)}),
                ('release b x.widen', NotSteps, {'value': (('x', 'widen'),)}),
                ('release a v.switch x.read', NotSteps, {'value': (('v', 'switch'), ('x', 'read'))}),
                ('release b x.narrow', Fault, {'index': 1, 'name': 'x'}),
                ('release a v.switch y.read', Fault, {'index': 1, 'name': 'y'}),
                ('kind q', NoChannel, {'name': 'q'})):
            with self.subTest(line=line):
                self.assertEqual(outcome(desk.say, line), (kind, values))
                self.assertEqual([desk.say(question) for question in questions(four_kinds())], states)
        self.assertEqual(desk.say('undo'), 'b x.widen')
        self.assertEqual(outcome(desk.say, 'undo'), (NothingToUndo, {}))

    def test_dashes(self):
        desk = Desk('services a b')
        self.assertEqual([desk.say(line) for line in questions(System(('a', 'b'), ()))],
                         ['-', '-', '0', '0', '-', '-', '-', '0', '-', '-'])

    def test_the_whole_system(self):
        desk = Desk(show_system(ring_of('abc')))
        for line in ('edges', 'forced', 'split', 'waves'):
            before = desk.say(line)
            desk.say('release ' + show_plan((Rollout(ring_of('abc')).finish()[0],)))
            self.assertEqual(desk.say(line), before)
            desk.say('undo')

    def test_two_desks(self):
        first, second = Desk(show_system(four_kinds())), Desk(show_system(four_kinds()))
        first.say('release b x.widen')
        self.assertEqual([first.say('count'), second.say('count')], ['1', '0'])

    def test_bad_texts(self):
        text = show_system(four_kinds())
        for wrong, row in ((text + '\n', 5), ('', 0), (text.replace('channel w', 'channel  w'), 2), ('services', 0),
                           (text.replace('channel y', 'channel x'), 4), ('services a\n', 1)):
            with self.assertRaises(BadText) as caught:
                Desk(wrong)
            self.assertEqual(caught.exception.row, row)
        for value in odd_values():
            with self.assertRaises(BadText) as caught:
                Desk(value)
            self.assertEqual(caught.exception.row, 0)

    def test_by_name_and_kinds(self):
        desk = Desk(text=show_system(four_kinds()))
        self.assertEqual(desk.say(line='release b x.widen'), 'done')
        for line in [*questions(four_kinds()), 'undo']:
            self.assertIs(desk.say(line).__class__, str)


class ExamplesTest(unittest.TestCase):

    def test_title(self):
        desk = Desk('services a b\nchannel z a b name name name title title title')
        a = desk.say('release b z.widen')
        self.assertEqual([a, desk.say('left'), desk.say('fewest'), desk.say('undo'), desk.say('forced'), desk.say('edges')],
                         ['done', 'z.narrow z.switch', '2', 'b z.widen', 'b:2', 'a>b b>a'])


if __name__ == '__main__':
    unittest.main()
