"""Checks of the package's files against the rules of the language that a program can see."""

import ast
import builtins
import pathlib
import re
import unittest
import warnings

ROOT = pathlib.Path(__file__).resolve().parent.parent
PACKAGE = ROOT / 'fewreleases'

BARRED_WORDS = ('type typing typing_extensions enum Enum IntEnum StrEnum Flag IntFlag Generic Protocol ABC ABCMeta '
                'namedtuple NamedTuple TypedDict TYPE_CHECKING abstractmethod').split()
BARRED_PARTS = ('dataclass', 'overload', 'contextmanager')
CALLED_BUILTINS = ('len range enumerate zip min max sum abs sorted reversed int str bool list tuple dict set '
                   'isinstance ord repr any all divmod super iter next').split()
WHOLE_LISTS = ('any', 'all', 'min', 'max', 'sum', 'sorted')
SPECIAL_METHODS = ('__init__', '__eq__', '__repr__', '__str__', '__len__')
BARRED_NODES = (ast.Global, ast.AsyncFunctionDef, ast.AsyncFor, ast.AsyncWith, ast.Await, ast.Import, ast.Div)

INTERFACE = {
    'errors': ('FewError BadServices BadChannels NoChannel NoService NoStep NotSteps HasCycle BadSplit NotForced '
               'NoNumber BadCosts Fault NothingToUndo BadText BadLine').split(),
    'fields': 'is_fields is_reader is_format accepts widened'.split(),
    'systems': 'System channel_of kind_of exchanged'.split(),
    'steps': 'all_steps steps_of owner_of order_pairs'.split(),
    'moments': 'formats_at refusals refusals_during'.split(),
    'plans': 'is_release is_plan first_fault is_safe backwards'.split(),
    'graph': 'edges forced find_cycle is_cycle safe_order'.split(),
    'making': 'plan_with'.split(),
    'fewest': 'fewest_releases fewest_split fewest_plan count_splits split_at ever_split always_split'.split(),
    'needed': 'needed_cycles shows_needed'.split(),
    'costs': 'cheapest_split least_cost'.split(),
    'waves': 'fewest_waves wave_plan is_wave_plan waves_of'.split(),
    'rollout': 'Rollout'.split(),
    'texts': 'show_system read_system show_plan read_plan'.split(),
    'desk': 'Desk'.split(),
}
ARGUMENTS = {
    'is_fields': 'value', 'is_reader': 'value', 'is_format': 'value', 'accepts': 'reader written',
    'widened': 'reader other', 'channel_of': 'system name', 'kind_of': 'system name', 'exchanged': 'system',
    'all_steps': 'system', 'steps_of': 'system service', 'owner_of': 'system step', 'order_pairs': 'system',
    'formats_at': 'system done', 'refusals': 'system done', 'refusals_during': 'system done release',
    'is_release': 'system value', 'is_plan': 'system value', 'first_fault': 'system plan', 'is_safe': 'system plan',
    'backwards': 'system plan', 'edges': 'system', 'forced': 'system', 'find_cycle': 'system without',
    'is_cycle': 'system value', 'safe_order': 'system without', 'plan_with': 'system split',
    'fewest_releases': 'system', 'fewest_split': 'system', 'fewest_plan': 'system', 'count_splits': 'system',
    'split_at': 'system number', 'ever_split': 'system', 'always_split': 'system', 'needed_cycles': 'system',
    'shows_needed': 'system value', 'cheapest_split': 'system costs', 'least_cost': 'system costs',
    'fewest_waves': 'system', 'wave_plan': 'system', 'is_wave_plan': 'system value', 'waves_of': 'system plan',
    'show_system': 'system', 'read_system': 'text', 'show_plan': 'plan', 'read_plan': 'system text',
}
METHODS = {
    'System': {'__init__': 'services channels', '__eq__': 'other'},
    'Rollout': {'__init__': 'system', 'release': 'service steps', 'undo': '', 'releases': '', 'done_steps': '',
                'left_steps': '', 'ready_steps': 'service', 'fewest_left': '', 'finish': '', 'copy': '',
                '__eq__': 'other', '__len__': ''},
    'Desk': {'__init__': 'text', 'say': 'line'},
}
CALLED_METHODS = ('append clear copy count endswith extend find get index insert isalnum isalpha isdigit islower '
                  'isspace isupper items join keys ljust lower lstrip partition pop remove replace reverse rfind '
                  'rjust rpartition rsplit rstrip setdefault split splitlines startswith strip update upper values '
                  'zfill bit_length add discard __init__').split()


def files():
    return sorted(PACKAGE.glob('*.py'))


def trees():
    return [(path, ast.parse(path.read_text(encoding='utf-8'))) for path in files()]


def nodes(kind):
    return [(path, node) for path, tree in trees() for node in ast.walk(tree) if isinstance(node, kind)]


def own_methods():
    return [node.name for path, owner in nodes(ast.ClassDef) for node in owner.body if isinstance(node, ast.FunctionDef)]


class FilesTest(unittest.TestCase):

    def test_only_plain_files(self):
        for path in PACKAGE.iterdir():
            if path.name != '__pycache__':
                self.assertRegex(path.name, r'^(__init__|[a-z][a-z0-9_]*)\.py$')
        self.assertIn('__init__.py', [path.name for path in files()])

    def test_sizes_and_characters(self):
        for path in files():
            text = path.read_text(encoding='utf-8')
            self.assertRegex(text, r'\A[ -~\n]*\Z', path)
            self.assertNotIn('%', text, path)
            lines = text.split('\n')
            self.assertLessEqual(len(lines), 399, path)
            self.assertLessEqual(max(map(len, lines)), 120, path)

    def test_words(self):
        for path in files():
            text = path.read_text(encoding='utf-8')
            self.assertEqual([word for word in re.findall(r'\w+', text) if word in BARRED_WORDS], [], path)
            self.assertEqual([part for part in BARRED_PARTS if part in text], [], path)

    def test_no_warnings(self):
        for path in files():
            with warnings.catch_warnings():
                warnings.simplefilter('error')
                compile(path.read_text(encoding='utf-8'), str(path), 'exec')


class CodeTest(unittest.TestCase):

    def test_interface_is_defined_in_its_file(self):
        for path, tree in trees():
            defined = [node.name for node in tree.body if isinstance(node, (ast.FunctionDef, ast.ClassDef))]
            for name in INTERFACE.get(path.stem, []):
                self.assertIn(name, defined)
        self.assertLessEqual(set(INTERFACE), {path.stem for path in files()})

    def test_arguments_of_the_interface(self):
        functions = {node.name: node for path, tree in trees() for node in tree.body
                     if isinstance(node, ast.FunctionDef) and node.name in INTERFACE.get(path.stem, [])}
        self.assertEqual(set(functions), set(ARGUMENTS))
        for name, arguments in ARGUMENTS.items():
            self.assertEqual([node.arg for node in functions[name].args.args], arguments.split(), name)

    def test_methods_of_the_interface(self):
        classes = {node.name: node for path, node in nodes(ast.ClassDef)}
        for name, methods in METHODS.items():
            found = {node.name: [part.arg for part in node.args.args] for node in classes[name].body
                     if isinstance(node, ast.FunctionDef)}
            for method, arguments in methods.items():
                self.assertEqual(found[method], ['self', *arguments.split()], (name, method))

    def test_called_methods(self):
        for path, node in nodes(ast.Call):
            if isinstance(node.func, ast.Attribute):
                self.assertIn(node.func.attr, CALLED_METHODS + own_methods(), (path, node.lineno))

    def test_methods_and_attributes(self):
        assigned = [node.attr for path, node in nodes(ast.Attribute) if isinstance(node.ctx, ast.Store)]
        self.assertEqual(set(assigned) & set(own_methods()), set())
        for path, node in nodes(ast.Attribute):
            self.assertIn(node.attr, assigned + CALLED_METHODS + own_methods(), (path, node.lineno))

    def test_local_names(self):
        known = set(vars(builtins))
        for path, tree in trees():
            imported = {alias.asname or alias.name for node in ast.walk(tree) if isinstance(node, ast.ImportFrom)
                        for alias in node.names}
            classes = {node.name for node in ast.walk(tree) if isinstance(node, ast.ClassDef)}
            bound = [node.arg for node in ast.walk(tree) if isinstance(node, ast.arg)]
            bound += [node.id for node in ast.walk(tree) if isinstance(node, ast.Name)
                      and isinstance(node.ctx, ast.Store)]
            defined = [node.name for node in tree.body if isinstance(node, (ast.FunctionDef, ast.ClassDef))]
            self.assertEqual(set(bound) & (imported | classes | known), set(), path)
            self.assertEqual(set(defined) & (imported | known), set(), path)
            self.assertEqual(len(set(defined)), len(defined), path)

    def test_no_round_of_imports(self):
        needs = {path.stem: {node.module.split('.')[1] for node in ast.walk(tree) if isinstance(node, ast.ImportFrom)}
                 for path, tree in trees()}
        while needs:
            free = [stem for stem in needs if not needs[stem] & set(needs)]
            self.assertNotEqual(free, [], sorted(needs))
            for stem in free:
                del needs[stem]

    def test_imports_name_the_file_that_defines_the_name(self):
        defined = {path.stem: {node.name for node in tree.body if isinstance(node, (ast.FunctionDef, ast.ClassDef))}
                   for path, tree in trees()}
        for path, tree in trees():
            defined[path.stem].update(node.targets[0].id for node in tree.body if isinstance(node, ast.Assign))
        for path, node in nodes(ast.ImportFrom):
            for alias in node.names:
                self.assertIn(alias.name, defined[node.module.split('.')[1]], path)

    def test_module_level(self):
        allowed = (ast.ImportFrom, ast.FunctionDef, ast.ClassDef, ast.Assign)
        for path, tree in trees():
            self.assertTrue(ast.get_docstring(tree), path)
            for node in tree.body[1:]:
                self.assertIsInstance(node, allowed, path)

    def test_imports(self):
        for path, node in nodes(ast.ImportFrom):
            self.assertEqual(node.level, 0, path)
            self.assertTrue(node.module.startswith('fewreleases.'), path)
            self.assertNotIn('*', [alias.name for alias in node.names], path)

    def test_no_barred_statements(self):
        self.assertEqual(nodes(BARRED_NODES), [])

    def test_functions(self):
        for path, node in nodes(ast.FunctionDef):
            self.assertLessEqual(node.end_lineno - node.lineno + 1, 40, (path, node.name))
            self.assertEqual(node.decorator_list, [], (path, node.name))
            self.assertEqual(node.args.posonlyargs, [], (path, node.name))
            if node.name.startswith('_'):
                self.assertIn(node.name, SPECIAL_METHODS, path)

    def test_names(self):
        for path, node in nodes((ast.Name, ast.arg, ast.Attribute)):
            name = getattr(node, 'id', None) or getattr(node, 'arg', None) or node.attr
            if name not in SPECIAL_METHODS:
                self.assertRegex(name, r'^[A-Za-z][A-Za-z0-9_]*$', path)

    def test_called_builtins(self):
        known = vars(builtins)
        for path, node in nodes(ast.Name):
            if node.id in known and not node.id.endswith('Error'):
                self.assertIn(node.id, CALLED_BUILTINS, (path, node.lineno))

    def test_whole_lists_beside_eq(self):
        for path, node in nodes(ast.Call):
            if isinstance(node.func, ast.Name) and node.func.id in WHOLE_LISTS:
                self.assertNotIn(ast.GeneratorExp, [type(arg) for arg in node.args], (path, node.lineno))

    def test_is_only_with_constants(self):
        for path, node in nodes(ast.Compare):
            for sign, right in zip(node.ops, node.comparators):
                if isinstance(sign, (ast.Is, ast.IsNot)):
                    self.assertIsInstance(right, ast.Constant, (path, node.lineno))


if __name__ == '__main__':
    unittest.main()
