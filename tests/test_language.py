"""Some of the rules of LANGUAGE.md, as far as the form of the files shows them."""

import ast
import builtins
import pathlib
import re
import unittest

FOLDER = pathlib.Path(__file__).resolve().parent.parent / 'freshplaces'
FILES = sorted(path for path in FOLDER.rglob('*') if '__pycache__' not in path.parts)
BUILTINS = set('''len range enumerate zip min max sum abs sorted reversed int str bool list tuple dict set frozenset
isinstance ord repr any all divmod ValueError TypeError KeyError IndexError LookupError ZeroDivisionError
ArithmeticError OverflowError RuntimeError NotImplementedError AttributeError Exception NotImplemented property
classmethod staticmethod super'''.split())
METHODS = set('''append clear copy count endswith extend find get index insert isalnum isalpha isdigit islower isspace
isupper items join keys ljust lower lstrip partition pop remove replace reverse rfind rjust rpartition rsplit rstrip
setdefault split splitlines startswith strip update upper values zfill bit_length removeprefix removesuffix'''.split())
SPECIAL = set('''__init__ __eq__ __repr__ __str__ __len__ __enter__ __exit__ __call__ __iter__ __contains__ __or__
__and__ __invert__'''.split())
STATEMENTS = (ast.Assign, ast.AugAssign, ast.If, ast.While, ast.For, ast.Return, ast.Break, ast.Continue, ast.Pass,
              ast.Raise, ast.Assert, ast.Delete, ast.Nonlocal, ast.With, ast.Try, ast.Expr, ast.FunctionDef)
BARRED_NAMES = set('''register mro elements open input law version_info with_traceback add_note attrgetter breakpoint
builtins compile copyright credits delattr dir eval exec exit gc getattr globals hasattr help id importlib license
locals methodcaller os quit setattr type vars sys'''.split())
BARRED_WORDS = '''typing typing_extensions enum Enum IntEnum StrEnum Flag IntFlag Generic Protocol ABC ABCMeta
namedtuple NamedTuple TypedDict TYPE_CHECKING abstractmethod dataclass overload contextmanager _wall _WallAttr'''.split()


def nodes(kind):
    for path in FILES:
        for node in ast.walk(ast.parse(path.read_text())):
            if isinstance(node, kind):
                yield path.name, node


class Language(unittest.TestCase):
    def test_files(self):
        for path in FILES:
            text = path.read_text(encoding='ascii')
            self.assertRegex(path.name, r'^[a-z_]+\.py$')
            lines = text.split('\n')
            self.assertLessEqual(len(lines), 399)
            self.assertLessEqual(max(map(len, lines)), 120)
            self.assertFalse(set(text) - set('\n') - set(map(chr, range(32, 127))), path)
            for word in BARRED_WORDS:
                self.assertIsNone(re.search(r'\b%s\b' % word, text), (path, word))
        self.assertTrue((FOLDER / '__init__.py').exists())

    def test_functions_have_at_most_forty_lines(self):
        for name, node in nodes(ast.FunctionDef):
            self.assertLessEqual(node.end_lineno - node.lineno + 1, 40, (name, node.name))

    def test_module_level(self):
        for path in FILES:
            tree = ast.parse(path.read_text())
            for at, node in enumerate(tree.body):
                is_docstring = at == 0 and isinstance(node, ast.Expr) and isinstance(node.value, ast.Constant)
                self.assertTrue(is_docstring or isinstance(node, (ast.ImportFrom, ast.FunctionDef, ast.ClassDef, ast.Assign)))
                if isinstance(node, ast.Assign):
                    self.assertEqual(len(node.targets), 1)
                    self.assertIsInstance(node.targets[0], ast.Name)
                    ast.literal_eval(node.value)

    def test_imports(self):
        used = {}
        for path in FILES:
            used[path.stem] = set()
            for node in ast.walk(ast.parse(path.read_text())):
                self.assertNotIsInstance(node, ast.Import)
                if isinstance(node, ast.ImportFrom):
                    self.assertEqual(node.level, 0)
                    self.assertTrue(all(alias.asname is None and alias.name != '*' for alias in node.names))
                    if node.module == 'math':
                        self.assertLessEqual({alias.name for alias in node.names}, {'gcd', 'lcm', 'isqrt', 'comb'})
                        continue
                    package, _, module = node.module.partition('.')
                    self.assertEqual(package, 'freshplaces')
                    used[path.stem].add(module)
                    defined = {other.name for other in ast.parse((FOLDER / (module + '.py')).read_text()).body
                               if isinstance(other, (ast.FunctionDef, ast.ClassDef))}
                    defined |= {target.id for other in ast.parse((FOLDER / (module + '.py')).read_text()).body
                                if isinstance(other, ast.Assign) for target in other.targets}
                    self.assertLessEqual({alias.name for alias in node.names}, defined)
        done = set()
        while len(done) < len(used):
            free = {name for name, needed in used.items() if name not in done and needed <= done}
            self.assertTrue(free, 'files import from each other')
            done |= free

    def test_statements(self):
        for name, node in nodes(ast.stmt):
            self.assertIsInstance(node, STATEMENTS + (ast.ImportFrom, ast.ClassDef), (name, node.lineno))

    def test_expressions(self):
        for name, node in nodes(ast.expr):
            self.assertNotIsInstance(node, (ast.GeneratorExp, ast.Await, ast.JoinedStr, ast.NamedExpr), (name, node.lineno))
            if isinstance(node, ast.Constant):
                self.assertIn(type(node.value), (int, str, bool, type(None)), (name, node.lineno))
                if isinstance(node.value, str):
                    self.assertNotIn('%', node.value)
            if isinstance(node, ast.BinOp):
                self.assertNotIsInstance(node.op, (ast.Div, ast.MatMult), (name, node.lineno))
            if isinstance(node, ast.Compare):
                for operator, right in zip(node.ops, node.comparators):
                    if isinstance(operator, (ast.Is, ast.IsNot)):
                        self.assertIsInstance(right, ast.Constant, (name, node.lineno))

    def test_builtins_and_their_names(self):
        every = set(dir(builtins))
        for name, node in nodes(ast.Name):
            if isinstance(node.ctx, ast.Store):
                self.assertNotIn(node.id, every | BARRED_NAMES, (name, node.lineno))
            elif node.id in every:
                self.assertIn(node.id, BUILTINS, (name, node.lineno))
        for name, node in nodes(ast.arg):
            self.assertNotIn(node.arg, every | BARRED_NAMES, (name, node.lineno))
        for name, node in nodes((ast.FunctionDef, ast.ClassDef)):
            self.assertNotIn(node.name, every | BARRED_NAMES, (name, node.lineno))

    def test_methods(self):
        own = {node.name for _, node in nodes(ast.FunctionDef)}
        stored = {node.attr for _, node in nodes(ast.Attribute) if isinstance(node.ctx, ast.Store)}
        for name, node in nodes(ast.Attribute):
            self.assertIn(node.attr, METHODS | own | stored, (name, node.lineno))
            self.assertNotIn(node.attr, ['format', 'mro', 'args', 'sort', 'encode', 'decode'])
        for name, node in nodes(ast.ClassDef):
            methods = [part.name for part in node.body if isinstance(part, ast.FunctionDef)]
            self.assertEqual(len(methods), len(set(methods)))
            for method in methods:
                self.assertTrue(not method.startswith('__') or method in SPECIAL, (name, method))
            self.assertFalse(node.decorator_list)
            self.assertFalse(set(methods) & stored, name)

    def test_exponents_are_literals(self):
        for name, node in nodes(ast.BinOp):
            if isinstance(node.op, ast.Pow):
                self.assertIsInstance(node.right, ast.Constant, (name, node.lineno))
                self.assertLessEqual(node.right.value, 64)

    def test_properties_have_names_of_their_own(self):
        properties = {node.name for _, node in nodes(ast.FunctionDef)
                      if [mark for mark in node.decorator_list if isinstance(mark, ast.Name) and mark.id == 'property']}
        stored = {node.attr for _, node in nodes(ast.Attribute) if isinstance(node.ctx, ast.Store)}
        plain = {node.name for _, node in nodes(ast.FunctionDef) if not node.decorator_list}
        self.assertFalse(properties & (stored | plain))

    def test_attributes_are_assigned_through_local_names(self):
        for name, node in nodes(ast.Attribute):
            if isinstance(node.ctx, ast.Store):
                self.assertIsInstance(node.value, ast.Name, (name, node.lineno))
                self.assertTrue(node.value.id[0].islower(), (name, node.lineno))

    def test_what_a_loop_goes_over_is_not_modified_in_it(self):
        changing = {'append', 'clear', 'extend', 'insert', 'pop', 'remove', 'reverse', 'setdefault', 'update'}
        for name, node in nodes(ast.For):
            over = ast.dump(node.iter)
            for part in [part for line in node.body for part in ast.walk(line)]:
                if isinstance(part, ast.Call) and isinstance(part.func, ast.Attribute) and part.func.attr in changing:
                    self.assertNotIn(ast.dump(part.func.value), over, (name, part.lineno))
                if isinstance(part, ast.Attribute) and isinstance(part.ctx, ast.Store):
                    self.assertNotIn(ast.dump(part).replace('Store', 'Load'), over, (name, part.lineno))
                if isinstance(part, ast.Subscript) and isinstance(part.ctx, ast.Store):
                    self.assertNotIn(ast.dump(part.value), over, (name, part.lineno))

    def test_comprehensions_inside_others_have_variables_of_their_own(self):
        def bound(part):
            return {name.id for name in ast.walk(part) if isinstance(name, ast.Name) and isinstance(name.ctx, ast.Store)}

        kinds = (ast.ListComp, ast.DictComp, ast.SetComp, ast.Lambda)
        for name, function in nodes(ast.FunctionDef):
            for outer in [part for part in ast.walk(function) if isinstance(part, kinds)]:
                for inner in [part for part in ast.walk(outer) if isinstance(part, kinds) and part is not outer]:
                    own = bound(inner)
                    others = {argument.arg for argument in function.args.args}
                    for part in ast.walk(function):
                        if isinstance(part, ast.Name) and isinstance(part.ctx, ast.Store) and part not in list(ast.walk(inner)):
                            others.add(part.id)
                    self.assertFalse(own & others, (name, function.name, own & others))

    def test_what_a_finally_holds(self):
        for name, node in nodes(ast.Try):
            for line in node.finalbody:
                self.assertIsInstance(line, ast.Assign, (name, line.lineno))
                self.assertFalse([part for part in ast.walk(line) if isinstance(part, (ast.Call, ast.Subscript, ast.BinOp))])
            for handler in node.handlers:
                self.assertIsInstance(handler.type, ast.Name, (name, handler.lineno))

    def test_generators_have_names_of_their_own(self):
        functions = [node for _, node in nodes(ast.FunctionDef)]
        for node in functions:
            if any(isinstance(part, (ast.Yield, ast.YieldFrom)) for part in ast.walk(node)):
                self.assertEqual([other.name for other in functions].count(node.name), 1, node.name)

    def test_imported_names_mean_nothing_else(self):
        for path in FILES:
            tree = ast.parse(path.read_text())
            imported = {alias.name for node in ast.walk(tree) if isinstance(node, ast.ImportFrom) for alias in node.names}
            imported |= {node.name for node in tree.body if isinstance(node, ast.ClassDef)}
            bound = {node.id for node in ast.walk(tree) if isinstance(node, ast.Name) and isinstance(node.ctx, ast.Store)}
            bound |= {node.arg for node in ast.walk(tree) if isinstance(node, ast.arg)}
            methods = [part for node in tree.body if isinstance(node, ast.ClassDef) for part in node.body]
            bound |= {node.name for node in ast.walk(tree) if isinstance(node, ast.FunctionDef) and node not in methods}
            self.assertFalse(imported & bound, path)


if __name__ == '__main__':
    unittest.main()
