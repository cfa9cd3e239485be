import unittest

from fewreleases import errors
from tests.samples import odd_values

ARGUMENTS = {
    'BadServices': ('value',),
    'BadChannels': ('value',),
    'NoChannel': ('name',),
    'NoService': ('service',),
    'NoStep': ('step',),
    'NotSteps': ('value',),
    'HasCycle': ('cycle',),
    'BadSplit': ('value',),
    'NotForced': ('service',),
    'NoNumber': ('number',),
    'BadCosts': ('value',),
    'Fault': ('index', 'name'),
    'NothingToUndo': (),
    'BadText': ('row',),
    'BadLine': ('line',),
}


class ErrorsTest(unittest.TestCase):

    def test_base_classes(self):
        self.assertEqual(errors.FewError.__bases__, (ValueError,))
        self.assertEqual(len(ARGUMENTS), 15)
        for name in ARGUMENTS:
            with self.subTest(name=name):
                self.assertEqual(getattr(errors, name).__bases__, (errors.FewError,))

    def test_no_other_errors(self):
        found = [name for name, value in vars(errors).items() if isinstance(value, type)]
        self.assertEqual(sorted(found), sorted([*ARGUMENTS, 'FewError']))

    def test_defined_in_this_file(self):
        for name in [*ARGUMENTS, 'FewError']:
            self.assertEqual(getattr(errors, name).__module__, 'fewreleases.errors')

    def test_by_position_and_by_name(self):
        for name, arguments in ARGUMENTS.items():
            for at, value in enumerate(odd_values()):
                with self.subTest(name=name, at=at):
                    values = [value, ('other', value)][:len(arguments)]
                    kind = getattr(errors, name)
                    self.check(kind(*values), arguments, values)
                    self.check(kind(**dict(zip(arguments, values))), arguments, values)

    def check(self, error, arguments, values):
        self.assertEqual(sorted(vars(error)), sorted(arguments))
        for argument, value in zip(arguments, values):
            self.assertIs(getattr(error, argument), value)
        self.assertIsInstance(str(error), str)
        self.assertIsInstance(repr(error), str)

    def test_mixed_arguments(self):
        error = errors.Fault(3, name='x')
        self.assertEqual((error.index, error.name), (3, 'x'))
        error = errors.Fault(name='y', index=0)
        self.assertEqual((error.index, error.name), (0, 'y'))

    def test_arguments_are_required(self):
        for name, arguments in ARGUMENTS.items():
            kind = getattr(errors, name)
            with self.subTest(name=name):
                with self.assertRaises(TypeError):
                    kind(*range(len(arguments) + 1))
                if arguments:
                    with self.assertRaises(TypeError):
                        kind()

    def test_raised_and_caught(self):
        with self.assertRaises(ValueError):
            raise errors.NothingToUndo()
        with self.assertRaises(errors.FewError):
            raise errors.Fault(0, 'x')


if __name__ == '__main__':
    unittest.main()
