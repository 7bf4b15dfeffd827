"""What can be seen of the language rules without running the program (no whole check of them)."""

import ast
import builtins
import pathlib
import re
import unittest

PACKAGE = pathlib.Path(__file__).resolve().parent.parent / 'whoseuse'
FILES = sorted(PACKAGE.glob('**/*.py'))
LIBRARY = {
    'heapq': {'heappush', 'heappop', 'heapify', 'heapreplace', 'heappushpop'},
    'math': {'gcd', 'lcm', 'isqrt', 'comb', 'perm', 'factorial'},
    'itertools': {'product', 'combinations', 'permutations', 'chain', 'accumulate', 'pairwise', 'islice',
                  'zip_longest'},
    'collections': {'defaultdict'},
}
BUILTINS = set('''len range enumerate zip min max sum abs sorted reversed int str bool bytes list tuple dict set
frozenset isinstance ord repr any all divmod pow getattr hasattr setattr iter next map property staticmethod
classmethod super Exception ValueError TypeError KeyError IndexError LookupError ZeroDivisionError ArithmeticError
OverflowError RuntimeError NotImplementedError AttributeError StopIteration NotImplemented'''.split())
METHODS = set('''append clear copy count endswith extend find get index insert isalnum isalpha isdigit islower
isspace isupper items join keys ljust lower lstrip partition pop remove replace reverse rfind rjust rpartition
rsplit rstrip setdefault split splitlines startswith strip update upper values zfill bit_length title capitalize
swapcase casefold center expandtabs removeprefix removesuffix rindex isascii isdecimal isnumeric istitle
isidentifier isprintable translate sort add discard'''.split())
SPECIAL = set('''init eq repr str len enter exit call iter lt le gt ge ne add sub mul floordiv mod pow and or xor
lshift rshift radd rsub rmul rfloordiv rmod rand ror rxor rlshift rrshift iadd isub imul ifloordiv imod ipow iand
ior ixor ilshift irshift neg pos invert abs bool contains getitem setitem'''.split())
BARRED = set('''type typing typing_extensions enum Enum IntEnum StrEnum Flag IntFlag Generic Protocol ABC ABCMeta
namedtuple NamedTuple TypedDict TYPE_CHECKING abstractmethod'''.split())
NO_NODES = (ast.Global, ast.AsyncFor, ast.AsyncFunctionDef, ast.AsyncWith, ast.Await, ast.Div, ast.MatMult,
            ast.GeneratorExp)


def trees():
    for path in FILES:
        yield path, ast.parse(path.read_text())


def nodes(*kinds):
    for path, tree in trees():
        for node in ast.walk(tree):
            if isinstance(node, kinds):
                yield f'{path.name}:{getattr(node, "lineno", 0)}', node


def own_methods():
    return {node.name for _, node in nodes(ast.FunctionDef)}


class Form(unittest.TestCase):

    def test_files(self):
        self.assertTrue(FILES)
        for path in PACKAGE.glob('**/*'):
            if '__pycache__' not in path.parts:
                self.assertRegex(path.name, r'^(__init__|[a-z][a-z0-9_]*)\.py$')

    def test_sizes_and_characters(self):
        for path in FILES:
            text = path.read_text(encoding='utf-8')
            self.assertLess(len(text.splitlines()), 400, path.name)
            self.assertIsNone(re.search(r'[^ -~\n]', text), path.name)
            for line in text.splitlines():
                self.assertLessEqual(len(line), 120, f'{path.name}: {line}')
                self.assertEqual(line.rstrip(), line, path.name)

    def test_functions_are_short(self):
        for where, node in nodes(ast.FunctionDef):
            self.assertLessEqual(node.end_lineno - node.lineno + 1, 40, where)

    def test_imports(self):
        for where, node in nodes(ast.Import, ast.ImportFrom):
            self.assertIsInstance(node, ast.ImportFrom, where)
            self.assertEqual(node.level, 0, where)
            names = {alias.name for alias in node.names}
            self.assertNotIn('*', names, where)
            if not node.module.startswith('whoseuse.'):
                self.assertLessEqual(names, LIBRARY.get(node.module, set()), where)

    def test_imports_name_the_file_that_defines(self):
        for where, node in nodes(ast.ImportFrom):
            if node.module.startswith('whoseuse.'):
                text = (PACKAGE / (node.module.split('.')[1] + '.py')).read_text()
                for alias in node.names:
                    self.assertRegex(text, rf'(?m)^(def |class |){alias.name}\b', where)

    def test_module_level(self):
        for path, tree in trees():
            for node in tree.body:
                plain = isinstance(node, (ast.FunctionDef, ast.ClassDef, ast.ImportFrom, ast.Assign))
                self.assertTrue(plain or isinstance(node.value, ast.Constant), f'{path.name}:{node.lineno}')

    def test_no_decorators_but_those_of_methods(self):
        for where, node in nodes(ast.FunctionDef, ast.ClassDef):
            for decorator in node.decorator_list:
                told = decorator.attr if isinstance(decorator, ast.Attribute) else decorator.id
                self.assertIn(told, ('property', 'setter', 'staticmethod', 'classmethod'), where)

    def test_double_underscore_methods(self):
        for where, node in nodes(ast.FunctionDef):
            if node.name.startswith('__'):
                self.assertIn(node.name.strip('_'), SPECIAL, where)

    def test_barred_statements_and_expressions(self):
        for where, node in nodes(*NO_NODES):
            self.fail(f'{where}: {node.__class__.__name__}')
        for where, node in nodes(ast.Constant):
            self.assertNotIsInstance(node.value, (float, complex), where)
            if isinstance(node.value, str):
                self.assertNotIn('%', node.value, where)

    def test_builtins(self):
        for where, node in nodes(ast.Name):
            # The examples, when they are run, leave their last value as _ among the builtins.
            if node.id in vars(builtins) and node.id != '_':
                self.assertIn(node.id, BUILTINS, where)
                self.assertIsInstance(node.ctx, ast.Load, where)
        for where, node in nodes(ast.arg):
            self.assertNotIn(node.arg, vars(builtins), where)

    def test_called_methods(self):
        known = METHODS | own_methods()
        for where, node in nodes(ast.Call):
            if isinstance(node.func, ast.Attribute):
                self.assertIn(node.func.attr, known, where)

    def test_words(self):
        for path, tree in trees():
            for node in ast.walk(tree):
                for word in (getattr(node, 'id', None), getattr(node, 'attr', None), getattr(node, 'arg', None)):
                    self.assertNotIn(word, BARRED, path.name)

    def test_identity_only_with_constants(self):
        for where, node in nodes(ast.Compare):
            for operator, right in zip(node.ops, node.comparators):
                if isinstance(operator, (ast.Is, ast.IsNot)):
                    self.assertIsInstance(right, ast.Constant, where)

    def test_sums_at_variables(self):
        # With a class that has __radd__, += is let beside numbers alone; here it is not used at all.
        for where, node in nodes(ast.AugAssign):
            self.assertIsInstance(node.value, ast.Constant, where)
            self.assertIsInstance(node.target, ast.Name, where)

    def test_no_property_is_assigned(self):
        # A property without a setter bars its name as an attribute in all classes.
        properties = {node.name for _, node in nodes(ast.FunctionDef) for decorator in node.decorator_list
                      if isinstance(decorator, ast.Name) and decorator.id == 'property'}
        self.assertTrue(properties)
        for where, node in nodes(ast.Attribute):
            if isinstance(node.ctx, ast.Store):
                self.assertNotIn(node.attr, properties, where)

    def test_no_method_is_an_attribute(self):
        stored = {node.attr for _, node in nodes(ast.Attribute) if isinstance(node.ctx, ast.Store)}
        methods = {node.name for _, owner in nodes(ast.ClassDef) for node in owner.body
                   if isinstance(node, ast.FunctionDef)}
        self.assertEqual(stored & methods, set())

    def test_what_has_items_tells_how_it_is_gone_over(self):
        for where, node in nodes(ast.ClassDef):
            methods = {part.name for part in node.body if isinstance(part, ast.FunctionDef)}
            if '__getitem__' in methods:
                self.assertIn('__iter__', methods, where)

    def test_local_names_are_no_imports_and_no_classes(self):
        for path, tree in trees():
            taken = {alias.name for node in ast.walk(tree) if isinstance(node, ast.ImportFrom) for alias in node.names}
            taken |= {node.name for node in ast.walk(tree) if isinstance(node, ast.ClassDef)}
            for node in ast.walk(tree):
                if isinstance(node, ast.arg):
                    self.assertNotIn(node.arg, taken, f'{path.name}:{node.lineno}')
                if isinstance(node, ast.Name) and isinstance(node.ctx, ast.Store):
                    self.assertNotIn(node.id, taken, f'{path.name}:{node.lineno}')

    def test_no_file_imports_from_itself_by_a_way_round(self):
        needs = {path.stem: {node.module.split('.')[1] for node in ast.walk(tree) if isinstance(node, ast.ImportFrom)
                             and node.module.startswith('whoseuse.')} for path, tree in trees()}
        while needs:
            free = [name for name, wanted in needs.items() if not wanted & set(needs)]
            self.assertTrue(free, needs)
            for name in free:
                del needs[name]

    def test_what_is_sorted_is_plain(self):
        # With a class that has an order, sorted, min and max are handed plain numbers and strings alone.
        for where, node in nodes(ast.Call):
            if isinstance(node.func, ast.Name) and node.func.id in ('sorted', 'min', 'max'):
                plain = [word for word in ('str(', 'int(', 'len(', 'key=str', 'key=int', 'key=len')
                         if word in ast.unparse(node)]
                literal = any(isinstance(arg, ast.Constant) for arg in node.args)
                self.assertTrue(plain or literal, where)


if __name__ == '__main__':
    unittest.main()
