"""Rules of ../shared/LANGUAGE.md that can be seen in the code file by file."""
import ast
import pathlib
import re
import unittest

ROOT = pathlib.Path(__file__).resolve().parent.parent / "seenanddone"
FILES = sorted(path for path in ROOT.rglob("*") if "__pycache__" not in path.parts and path.is_file())

BUILTINS = set(
    "len range enumerate zip min max sum abs sorted reversed int str bool list tuple dict set isinstance ord repr any "
    "all divmod iter Exception ValueError TypeError KeyError IndexError LookupError ZeroDivisionError ArithmeticError "
    "OverflowError RuntimeError NotImplementedError StopIteration property".split())
METHODS = set(
    "append clear copy count endswith extend find get index insert isalnum isalpha isdigit islower isspace isupper "
    "items join keys ljust lower lstrip partition pop remove replace reverse rfind rjust rpartition rsplit rstrip "
    "setdefault split splitlines startswith strip update upper values zfill bit_length".split())
DUNDERS = set("__init__ __eq__ __str__ __repr__ __len__ __iter__ __contains__".split())
LIBRARY = {"math": {"gcd", "lcm", "isqrt", "comb", "factorial"}}
BARRED_WORDS = re.compile(
    r"\b(typing|typing_extensions|enum|Enum|IntEnum|StrEnum|Flag|IntFlag|Generic|Protocol|ABC|ABCMeta|namedtuple|"
    r"NamedTuple|TypedDict|TYPE_CHECKING|abstractmethod|register|mro|elements|open|input|law|eval|exec|globals)\b")
BARRED_NODES = (
    ast.AsyncFunctionDef, ast.AsyncFor, ast.AsyncWith, ast.Await, ast.Global, ast.Nonlocal, ast.GeneratorExp, ast.Div,
    ast.With, ast.Lambda, ast.NamedExpr, ast.AnnAssign, ast.Match, ast.YieldFrom, ast.Assert, ast.Delete)
ALL_BUILTIN_NAMES = set(dir(__builtins__) if not isinstance(__builtins__, dict) else __builtins__)


def is_plain(node):
    """Whether an expression at module level is made of literals and operators alone."""
    if isinstance(node, (ast.Tuple, ast.List)):
        return all(is_plain(part) for part in node.elts)
    if isinstance(node, ast.Dict):
        return all(is_plain(part) and not isinstance(part, (ast.List, ast.Dict)) for part in node.keys + node.values)
    if isinstance(node, ast.BinOp):
        return is_plain(node.left) and is_plain(node.right)
    if isinstance(node, ast.UnaryOp):
        return is_plain(node.operand)
    return isinstance(node, ast.Constant)


def bound_names(function):
    """The names of parameters and local variables of a function."""
    names = [arg.arg for arg in function.args.args + function.args.kwonlyargs]
    for node in ast.walk(function):
        if isinstance(node, ast.Name) and isinstance(node.ctx, ast.Store):
            names.append(node.id)
    return names


def changed_names(loop):
    """The names whose lists or dicts the rows of a loop change."""
    found = set()
    for node in [part for row in loop.body for part in ast.walk(row)]:
        if isinstance(node, ast.Call) and isinstance(node.func, ast.Attribute) and isinstance(node.func.value, ast.Name):
            if node.func.attr in ("append", "clear", "extend", "insert", "pop", "remove", "reverse", "setdefault", "update"):
                found.add(node.func.value.id)
        if isinstance(node, ast.Subscript) and isinstance(node.ctx, ast.Store) and isinstance(node.value, ast.Name):
            found.add(node.value.id)
    return found


class LanguageTest(unittest.TestCase):
    def setUp(self):
        self.trees = {path: ast.parse(path.read_text()) for path in FILES}

    def functions(self):
        for path, tree in self.trees.items():
            for node in ast.walk(tree):
                if isinstance(node, ast.FunctionDef):
                    yield path, node

    def test_files(self):
        self.assertTrue(FILES)
        for path in FILES:
            self.assertRegex(path.name, r"^[a-z0-9_]+\.py$")
            self.assertTrue((path.parent / "__init__.py").is_file())
            text = path.read_text()
            self.assertTrue(all(sign == "\n" or " " <= sign <= "~" for sign in text), path)
            lines = text.splitlines()
            self.assertLessEqual(len(lines), 399, path)
            self.assertLessEqual(max(map(len, lines)), 120, path)
            self.assertFalse((path.parent / path.stem).is_dir())

    def test_function_length(self):
        for path, node in self.functions():
            self.assertLessEqual(node.end_lineno - node.lineno + 1, 40, (path, node.name))

    def test_statements(self):
        for path, tree in self.trees.items():
            for node in ast.walk(tree):
                self.assertNotIsInstance(node, BARRED_NODES, (path, getattr(node, "lineno", 0)))
                if isinstance(node, ast.Constant):
                    self.assertNotIsInstance(node.value, (float, bytes, complex), path)
                    if isinstance(node.value, str):
                        self.assertNotIn("%", node.value, path)
                if isinstance(node, ast.Compare) and isinstance(node.ops[0], (ast.Is, ast.IsNot)):
                    self.assertIn(node.comparators[0].value, (None, True, False), path)
                if isinstance(node, ast.BinOp) and isinstance(node.op, ast.Pow):
                    self.assertIsInstance(node.right, ast.Constant, path)
                    self.assertLessEqual(node.right.value, 64, path)

    def test_handlers(self):
        """What is caught is the package's own errors, and each name of one stands once in its function."""
        own = {node.name for node in self.trees[ROOT / "errors.py"].body if isinstance(node, ast.ClassDef)}
        for path, node in self.functions():
            handlers = [part for part in ast.walk(node) if isinstance(part, ast.ExceptHandler)]
            for handler in handlers:
                kinds = handler.type.elts if isinstance(handler.type, ast.Tuple) else [handler.type]
                self.assertLessEqual({kind.id for kind in kinds}, own, path)
            names = [handler.name for handler in handlers if handler.name]
            self.assertEqual(len(names), len(set(names)), path)
            self.assertFalse(set(names) & set(bound_names(node)), path)
            for part in ast.walk(node):
                if isinstance(part, ast.Raise) and part.exc is not None:
                    self.assertIsInstance(part.exc, ast.Call, path)
                    self.assertIn(part.exc.func.id, own | {"TypeError"}, path)

    def test_words(self):
        for path, tree in self.trees.items():
            for node in ast.walk(tree):
                for field in ("id", "attr", "name", "arg"):
                    word = getattr(node, field, None)
                    if isinstance(word, str):
                        self.assertIsNone(BARRED_WORDS.fullmatch(word), (path, word))
                        if word.startswith("__"):
                            self.assertIn(word, DUNDERS, path)
                        self.assertFalse(word.startswith(("_wall", "_pe_", "_dcw_", "_enum_", "_cm_", "_lay_", "_law_")))

    def test_module_level(self):
        for path, tree in self.trees.items():
            for node in tree.body:
                if isinstance(node, ast.Expr):
                    self.assertIsInstance(node.value.value, str)
                elif isinstance(node, ast.Assign):
                    self.assertEqual(len(node.targets), 1)
                    self.assertTrue(is_plain(node.value), (path, node.lineno))
                else:
                    self.assertIsInstance(node, (ast.ImportFrom, ast.FunctionDef, ast.ClassDef), path)

    def test_one_binding(self):
        for path, tree in self.trees.items():
            names = []
            for node in tree.body:
                if isinstance(node, ast.ImportFrom):
                    names.extend(alias.name for alias in node.names)
                elif isinstance(node, ast.Assign):
                    names.append(node.targets[0].id)
                elif isinstance(node, (ast.FunctionDef, ast.ClassDef)):
                    names.append(node.name)
            self.assertEqual(len(names), len(set(names)), path)

    def test_imports_name_the_defining_file(self):
        follows = {}
        for path, tree in self.trees.items():
            for node in tree.body:
                if not isinstance(node, ast.ImportFrom):
                    continue
                self.assertEqual(node.level, 0)
                self.assertTrue(all(alias.asname is None for alias in node.names))
                if node.module in LIBRARY:
                    self.assertLessEqual({alias.name for alias in node.names}, LIBRARY[node.module])
                    continue
                target = ROOT.parent / (node.module.replace(".", "/") + ".py")
                self.assertTrue(target.is_file(), (path, node.module))
                follows.setdefault(path, []).append(target)
                defined = set()
                for part in self.trees[target].body:
                    if isinstance(part, (ast.FunctionDef, ast.ClassDef)):
                        defined.add(part.name)
                    if isinstance(part, ast.Assign):
                        defined.add(part.targets[0].id)
                self.assertLessEqual({alias.name for alias in node.names}, defined, path)
        for start in FILES:
            met, waiting = set(), list(follows.get(start, []))
            while waiting:
                path = waiting.pop()
                if path not in met:
                    met.add(path)
                    waiting.extend(follows.get(path, []))
            self.assertNotIn(start, met)

    def test_imports_are_used(self):
        for path, tree in self.trees.items():
            used = {node.id for node in ast.walk(tree) if isinstance(node, ast.Name)}
            for node in tree.body:
                if isinstance(node, ast.ImportFrom):
                    self.assertLessEqual({alias.name for alias in node.names}, used, path)

    def test_local_names(self):
        for path, tree in self.trees.items():
            taken = set(ALL_BUILTIN_NAMES)
            for node in tree.body:
                if isinstance(node, ast.ImportFrom):
                    taken.update(alias.name for alias in node.names)
                if isinstance(node, ast.ClassDef):
                    taken.add(node.name)
            for node in ast.walk(tree):
                if isinstance(node, ast.FunctionDef):
                    self.assertFalse(taken & set(bound_names(node)), (path, node.name))
                    self.assertNotIn(node.name, ALL_BUILTIN_NAMES)
                    self.assertFalse([part for part in ast.walk(node) if part is not node
                                      and isinstance(part, (ast.FunctionDef, ast.ClassDef))], path)

    def test_builtins_and_methods(self):
        own = set()
        for _, node in self.functions():
            own.add(node.name)
        for path, tree in self.trees.items():
            local = set(own)
            for node in tree.body:
                if isinstance(node, ast.ImportFrom):
                    local.update(alias.name for alias in node.names)
                if isinstance(node, ast.ClassDef):
                    local.add(node.name)
            for node in ast.walk(tree):
                if isinstance(node, ast.Call) and isinstance(node.func, ast.Name):
                    self.assertIn(node.func.id, local | BUILTINS, path)
                if isinstance(node, ast.Call) and isinstance(node.func, ast.Attribute):
                    self.assertIn(node.func.attr, local | METHODS, path)

    def test_generator_names(self):
        functions = list(self.functions())
        makers = [node.name for _, node in functions if any(isinstance(part, ast.Yield) for part in ast.walk(node))]
        names = [node.name for _, node in functions]
        for name in makers:
            self.assertEqual(names.count(name), 1, name)

    def test_sets_stand_in_sorted_or_len(self):
        for path, tree in self.trees.items():
            held = set()
            for node in ast.walk(tree):
                if isinstance(node, ast.Call) and isinstance(node.func, ast.Name) and node.func.id in ("sorted", "len"):
                    held.update(id(part) for part in node.args)
            for node in ast.walk(tree):
                if isinstance(node, ast.Call) and isinstance(node.func, ast.Name) and node.func.id == "set":
                    self.assertIn(id(node), held, (path, node.lineno))
                self.assertNotIsInstance(node, (ast.Set, ast.SetComp), path)

    def test_what_a_loop_walks_stays(self):
        """A loop changes what it goes over by no name that the function gives it."""
        for path, node in self.functions():
            pairs = [(part.targets[0].id, part.value.id) for part in ast.walk(node)
                     if isinstance(part, ast.Assign) and isinstance(part.targets[0], ast.Name) and isinstance(part.value, ast.Name)]
            for loop in ast.walk(node):
                if isinstance(loop, ast.For) and isinstance(loop.iter, ast.Name):
                    names = {loop.iter.id}
                    for _ in pairs:
                        names |= {name for pair in pairs if names & set(pair) for name in pair}
                    self.assertFalse(names & changed_names(loop), (path, loop.lineno))

    def test_what_is_iterated_at_once(self):
        takes = ("list", "tuple", "dict", "sorted", "sum", "any", "all", "enumerate", "zip", "min", "max", "reversed")
        for path, tree in self.trees.items():
            held = set()
            for node in ast.walk(tree):
                if isinstance(node, (ast.For, ast.comprehension)):
                    held.add(id(node.iter))
                if isinstance(node, ast.Call) and isinstance(node.func, ast.Name) and node.func.id in takes:
                    held.update(id(part) for part in node.args)
            for node in ast.walk(tree):
                if isinstance(node, ast.Call):
                    word = getattr(node.func, "id", getattr(node.func, "attr", ""))
                    if word in ("zip", "enumerate", "reversed", "range", "items", "keys", "values", "lots_of", "rows", "members"):
                        self.assertIn(id(node), held, (path, node.lineno))

    def test_double_underscore_methods_assign_nothing(self):
        for path, node in self.functions():
            if node.name in ("__eq__", "__str__", "__len__", "__contains__"):
                self.assertFalse([part for part in ast.walk(node) if isinstance(part, (ast.Assign, ast.AugAssign))], path)
                self.assertIsInstance(node.body[-1], ast.Return)

    def test_names_of_methods_properties_and_attributes(self):
        methods, properties, attributes = set(), set(), set()
        for tree in self.trees.values():
            for kind in [node for node in ast.walk(tree) if isinstance(node, ast.ClassDef)]:
                for node in kind.body:
                    if isinstance(node, ast.FunctionDef):
                        (properties if node.decorator_list else methods).add(node.name)
                attributes |= {part.attr for part in ast.walk(kind) if isinstance(part, ast.Attribute) and isinstance(part.ctx, ast.Store)}
        self.assertFalse(methods & properties or methods & attributes or properties & attributes)
        for path, tree in self.trees.items():
            for node in ast.walk(tree):
                if isinstance(node, ast.Attribute) and isinstance(node.ctx, ast.Load):
                    self.assertIn(node.attr, methods | properties | attributes | METHODS, (path, node.lineno))

    def test_stars_in_calls(self):
        for path, tree in self.trees.items():
            for node in ast.walk(tree):
                if isinstance(node, ast.Call):
                    self.assertTrue(all(word.arg is not None for word in node.keywords), path)
                    starred = [at for at, part in enumerate(node.args) if isinstance(part, ast.Starred)]
                    for part in node.args[starred[0]:] if starred else []:
                        value = part.value if isinstance(part, ast.Starred) else part
                        self.assertIsInstance(value, (ast.Name, ast.Constant), (path, node.lineno))

    def test_decorators(self):
        for path, node in self.functions():
            for decorator in node.decorator_list:
                self.assertEqual(decorator.id, "property", (path, node.name))
                self.assertEqual([arg.arg for arg in node.args.args], ["self"])


if __name__ == "__main__":
    unittest.main()
