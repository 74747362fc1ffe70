"""The form of the package's code: what of the rules for it can be seen file by file."""

import ast
import builtins
import pathlib
import re
import unittest

PACKAGE = pathlib.Path(__file__).resolve().parent.parent / "termshelf"
BUILTINS = """
    len range enumerate zip min max sum abs sorted reversed int str bool list tuple dict set isinstance ord
    repr any all divmod ValueError KeyError LookupError NotImplementedError super
""".split()
METHODS = """
    append clear copy count endswith extend find get index insert isalnum isalpha isdigit islower isspace
    isupper items join keys ljust lower lstrip partition pop remove replace reverse rfind rjust rpartition
    rsplit rstrip setdefault split splitlines startswith strip update upper values zfill bit_length
""".split()
DOUBLE = "__init__ __eq__ __repr__ __str__ __len__ __call__".split()
BARRED_NAMES = """
    register mro elements open input law version_info with_traceback add_note attrgetter breakpoint builtins
    compile copyright delattr dir eval exec exit gc getattr globals hasattr help id importlib license locals
    methodcaller os quit setattr type vars sys
""".split()
BARRED_WORDS = """
    type typing typing_extensions enum Enum IntEnum StrEnum Flag IntFlag Generic Protocol ABC ABCMeta
    namedtuple NamedTuple TypedDict TYPE_CHECKING abstractmethod
""".split()
BARRED_NODES = (ast.Global, ast.AsyncFunctionDef, ast.AsyncFor, ast.AsyncWith, ast.Await, ast.GeneratorExp, ast.Yield,
                ast.YieldFrom, ast.Div, ast.AnnAssign, ast.Import, ast.With, ast.Match)


def files():
    return sorted(PACKAGE.rglob("*.py"))


def trees():
    return [(path, ast.parse(path.read_text())) for path in files()]


def nodes(kind):
    return [(path, node) for path, tree in trees() for node in ast.walk(tree) if isinstance(node, kind)]


def bound_names():
    told = [(path, node.id) for path, node in nodes(ast.Name) if isinstance(node.ctx, ast.Store)]
    told += [(path, node.arg) for path, node in nodes(ast.arg)]
    return told + [(path, node.name) for path, node in nodes((ast.FunctionDef, ast.ClassDef))]


class Files(unittest.TestCase):
    def test_nothing_else_stands_in_the_package(self):
        for path in PACKAGE.rglob("*"):
            if "__pycache__" not in path.parts:
                self.assertTrue(path.suffix == ".py" and re.fullmatch(r"[a-z0-9_]+\.py", path.name), path)
        self.assertEqual([path.parent for path in files()], [PACKAGE] * len(files()))

    def test_sizes_and_characters(self):
        for path in files():
            text = path.read_text(encoding="utf-8")
            self.assertTrue(all(sign == "\n" or " " <= sign <= "~" for sign in text), path)
            self.assertLessEqual(len(text.split("\n")), 399, path)
            self.assertLessEqual(max(len(row) for row in text.split("\n")), 120, path)
        for path, node in nodes(ast.FunctionDef):
            self.assertLessEqual(node.end_lineno - node.lineno + 1, 40, (path, node.name))


class Statements(unittest.TestCase):
    def test_none_beyond_the_subset(self):
        for path, node in nodes(BARRED_NODES):
            self.fail((path, node.lineno, node))
        for path, node in nodes((ast.FunctionDef, ast.ClassDef)):
            self.assertEqual(node.decorator_list, [], (path, node.lineno))

    def test_module_level(self):
        for path, tree in trees():
            for node in tree.body[1:]:
                self.assertIsInstance(node, (ast.ImportFrom, ast.FunctionDef, ast.ClassDef, ast.Assign), path)
            self.assertIsNotNone(ast.get_docstring(tree), path)

    def test_own_errors_alone_are_caught(self):
        errors = [node.name for path, node in nodes(ast.ClassDef) if path.name == "errors.py"]
        for path, node in nodes(ast.Try):
            for row in node.finalbody:
                self.assertIsInstance(row, (ast.Assign, ast.Expr), (path, node.lineno))
            for handler in node.handlers:
                caught = handler.type.elts if isinstance(handler.type, ast.Tuple) else [handler.type]
                self.assertLessEqual({name.id for name in caught}, set(errors), (path, node.lineno))

    def test_comparing_by_is(self):
        for path, node in nodes(ast.Compare):
            for sign, side in zip(node.ops, node.comparators):
                if isinstance(sign, (ast.Is, ast.IsNot)):
                    self.assertIsInstance(side, ast.Constant, (path, node.lineno))
                    self.assertIn(repr(side.value), ["None", "True", "False"], (path, node.lineno))

    def test_constants(self):
        for path, node in nodes(ast.Constant):
            self.assertNotIsInstance(node.value, (float, complex), (path, node.lineno))
            if isinstance(node.value, str):
                self.assertNotIn(chr(37), node.value, (path, node.lineno))
                self.assertFalse(node.value.endswith("._"), (path, node.lineno))

    def test_sets_are_written_beside_len_sorted_in_or_equality_alone(self):
        good = []
        for _, node in nodes((ast.Call, ast.Compare)):
            good.extend(node.args if isinstance(node, ast.Call) else [node.left] + node.comparators)
        good = [ast.dump(node) for node in good]
        for path, node in nodes((ast.Set, ast.SetComp)):
            self.assertIn(ast.dump(node), good, (path, node.lineno))


class Names(unittest.TestCase):
    def test_bound_names(self):
        own = [name for name in vars(builtins) if not name.startswith("_")]
        for path, name in bound_names():
            self.assertNotIn(name, own, path)
            self.assertNotIn(name, BARRED_NAMES, path)
            self.assertTrue(name in DOUBLE or not name.startswith("__"), (path, name))

    def test_builtins_and_methods(self):
        methods = METHODS + [node.name for _, node in nodes(ast.FunctionDef)]
        for path, node in nodes(ast.Name):
            if node.id in vars(builtins):
                self.assertIn(node.id, BUILTINS, (path, node.lineno))
        for path, node in nodes(ast.Call):
            if isinstance(node.func, ast.Attribute):
                self.assertIn(node.func.attr, methods, (path, node.lineno))

    def test_words_that_are_barred(self):
        for path in files():
            found = set(re.findall(r"\w+", path.read_text())) & set(BARRED_WORDS)
            self.assertEqual(found, set(), path)

    def test_locals_are_called_unlike_classes_and_imports_of_their_file(self):
        bound = bound_names()
        for path, tree in trees():
            taken = [alias.name for node in tree.body if isinstance(node, ast.ImportFrom) for alias in node.names]
            taken += [node.name for node in tree.body if isinstance(node, ast.ClassDef)]
            self.assertEqual(len(taken), len(set(taken)), path)
            for at, name in bound:
                if at == path and name not in [node.name for node in tree.body if isinstance(node, ast.ClassDef)]:
                    self.assertNotIn(name, taken, path)

    def test_no_name_is_a_method_and_an_attribute(self):
        methods = {node.name for _, node in nodes(ast.FunctionDef)}
        stored = {node.attr for _, node in nodes(ast.Attribute) if isinstance(node.ctx, ast.Store)}
        self.assertEqual(methods & stored, set())


class Imports(unittest.TestCase):
    def test_only_from_the_file_that_defines_the_name(self):
        for path, node in nodes(ast.ImportFrom):
            self.assertEqual((node.level, node.module.split(".")[0]), (0, "termshelf"), path)
            above = ast.parse((PACKAGE / (node.module.split(".")[1] + ".py")).read_text())
            names = [part.name for part in above.body if isinstance(part, (ast.FunctionDef, ast.ClassDef))]
            names += [part.targets[0].id for part in above.body if isinstance(part, ast.Assign)]
            for alias in node.names:
                self.assertIn(alias.name, names, path)
                self.assertIsNone(alias.asname, path)

    def test_none_leads_back(self):
        imports = {path.stem: set() for path in files()}
        for path, node in nodes(ast.ImportFrom):
            imports[path.stem].add(node.module.split(".")[1])
        settled = []
        while len(settled) < len(imports):
            more = [name for name in imports if name not in settled and imports[name] <= set(settled)]
            self.assertNotEqual(more, [], "files import from each other")
            settled.extend(more)

    def test_all_are_used(self):
        for path, tree in trees():
            used = {node.id for node in ast.walk(tree) if isinstance(node, ast.Name)}
            for node in tree.body:
                if isinstance(node, ast.ImportFrom):
                    self.assertEqual({alias.name for alias in node.names} - used, set(), path)


if __name__ == "__main__":
    unittest.main()
