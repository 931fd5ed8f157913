"""The package keeps to the small language: what of its rules can be read off the files."""

import ast
import builtins
import pathlib
import unittest

# A doctest that ran before leaves its last result there as _.
TAKEN = [name for name in dir(builtins) if name != "_"]
FOLDER = pathlib.Path(__file__).parent.parent / "movedchest"
BUILTINS = (
    "len range enumerate zip min max sum abs sorted reversed int str bool list tuple dict set isinstance ord repr any all "
    "divmod Exception ValueError TypeError KeyError IndexError LookupError NotImplemented"
).split()
METHODS = (
    "append clear copy count endswith extend find get index insert isalnum isalpha isdigit islower isspace isupper items "
    "join keys ljust lower lstrip partition pop remove replace reverse rfind rjust rpartition rsplit rstrip setdefault "
    "split splitlines startswith strip update upper values zfill bit_length removeprefix removesuffix"
).split()
NOT_NAMES = (
    "register mro elements open input law version_info with_traceback add_note attrgetter breakpoint compile copyright "
    "credits delattr dir eval exec exit gc getattr globals hasattr help id importlib license locals methodcaller os quit "
    "setattr super type vars sys map"
).split()
NOT_WORDS = "type typing enum Enum Generic Protocol ABC namedtuple dataclass overload contextmanager".split()
# Some of these may stand with conditions: the package does without them.
NOT_NODES = (
    ast.Global, ast.AsyncFunctionDef, ast.Await, ast.GeneratorExp, ast.Yield, ast.YieldFrom, ast.Set, ast.SetComp, ast.Div,
    ast.With, ast.Try, ast.Import, ast.Starred, ast.AnnAssign, ast.NamedExpr, ast.Match,
)


def sources():
    return {path.stem: path.read_text(encoding="utf-8") for path in sorted(FOLDER.glob("*.py"))}


def trees():
    return {name: ast.parse(text) for name, text in sources().items()}


def defined(tree):
    """The names that a module binds itself."""
    names = []
    for node in tree.body:
        if isinstance(node, (ast.FunctionDef, ast.ClassDef)):
            names.append(node.name)
        elif isinstance(node, ast.Assign):
            names.extend(target.id for target in node.targets)
    return names


def imported(tree):
    return [(node.module, alias.name) for node in tree.body if isinstance(node, ast.ImportFrom) for alias in node.names]


def bound(tree):
    """All names that are assigned, or are parameters, anywhere."""
    for node in ast.walk(tree):
        if isinstance(node, ast.Name) and not isinstance(node.ctx, ast.Load):
            yield node.id
        elif isinstance(node, ast.arg):
            yield node.arg


def own_methods(tree):
    """The names of the methods that the classes of a module define."""
    classes = [node for node in tree.body if isinstance(node, ast.ClassDef)]
    return [own.name for each in classes for own in each.body if isinstance(own, ast.FunctionDef)]


def own_attributes(tree):
    """The names of the attributes that a module assigns."""
    return [node.attr for node in ast.walk(tree) if isinstance(node, ast.Attribute) and isinstance(node.ctx, ast.Store)]


def nested(tree):
    """The names of functions defined in functions."""
    for node in ast.walk(tree):
        if isinstance(node, ast.FunctionDef):
            yield from (own.name for own in node.body if isinstance(own, ast.FunctionDef))


class Language(unittest.TestCase):
    def test_files(self):
        for path in FOLDER.iterdir():
            if path.name != "__pycache__":
                self.assertRegex(path.name, r"\A[a-z_]+\.py\Z")
        for name, text in sources().items():
            with self.subTest(file=name):
                self.assertTrue(all(sign == "\n" or " " <= sign <= "~" for sign in text))
                self.assertLessEqual(len(text.splitlines()), 399)
                self.assertLessEqual(max(map(len, text.splitlines())), 120)
                self.assertNotRegex(text, r"_wall\b|_WallAttr")

    def test_functions_are_small(self):
        for name, tree in trees().items():
            for node in ast.walk(tree):
                if isinstance(node, ast.FunctionDef):
                    with self.subTest(file=name, function=node.name):
                        self.assertLessEqual(node.end_lineno - node.lineno + 1, 40)
                        self.assertEqual(node.decorator_list, [])
                        self.assertTrue(ast.get_docstring(node) or node.name.startswith("__"))

    def test_module_level(self):
        for name, tree in trees().items():
            names = defined(tree) + [own for _, own in imported(tree)]
            self.assertEqual(len(names), len(set(names)), name)
            for node in tree.body:
                with self.subTest(file=name, line=node.lineno):
                    if isinstance(node, ast.Assign):
                        self.assertEqual(len(node.targets), 1)
                        ast.literal_eval(node.value)
                    elif isinstance(node, ast.Expr):
                        self.assertIsInstance(node.value.value, str)
                    else:
                        self.assertIsInstance(node, (ast.ImportFrom, ast.FunctionDef, ast.ClassDef))

    def test_imports(self):
        all_trees = trees()
        for name, tree in all_trees.items():
            for module, own in imported(tree):
                with self.subTest(file=name, name=own):
                    if module in ("heapq", "math", "itertools"):
                        continue
                    package, _, source = module.partition(".")
                    self.assertEqual(package, "movedchest")
                    self.assertIn(own, defined(all_trees[source]))
                    uses = [node for node in ast.walk(tree) if isinstance(node, ast.Name) and node.id == own]
                    self.assertTrue(uses, "imported and not used")

    def test_no_files_import_from_each_other(self):
        left = {name: {module.partition(".")[2] for module, _ in imported(tree)} for name, tree in trees().items()}
        while left:
            free = [name for name, needed in left.items() if not needed & set(left)]
            self.assertTrue(free, sorted(left))
            for name in free:
                del left[name]

    def test_names(self):
        for name, tree in trees().items():
            classes = [node.name for node in tree.body if isinstance(node, ast.ClassDef)]
            taken = classes + [own for _, own in imported(tree)]
            for own in bound(tree):
                with self.subTest(file=name, name=own):
                    self.assertNotIn(own, taken)
                    self.assertNotIn(own, NOT_NAMES)
                    self.assertNotIn(own, TAKEN)
                    self.assertFalse(own.startswith("__"))
            for own in defined(tree):
                self.assertNotIn(own, NOT_NAMES + TAKEN)

    def test_what_is_called(self):
        for name, tree in trees().items():
            known = set(defined(tree)) | {own for _, own in imported(tree)} | set(bound(tree)) | set(nested(tree))
            for node in ast.walk(tree):
                with self.subTest(file=name, line=getattr(node, "lineno", 0)):
                    self.assertNotIsInstance(node, NOT_NODES)
                    if isinstance(node, ast.Name) and isinstance(node.ctx, ast.Load):
                        self.assertTrue(node.id in known or node.id in BUILTINS, node.id)
                    if isinstance(node, ast.Call) and isinstance(node.func, ast.Attribute):
                        self.assertIn(node.func.attr, METHODS + own_methods(tree))
                    if isinstance(node, ast.Constant):
                        self.assertNotIsInstance(node.value, (float, bytes))
                    if isinstance(node, ast.Compare) and isinstance(node.ops[0], (ast.Is, ast.IsNot)):
                        self.assertIn(node.comparators[0].value, (None, True, False))

    def test_methods_and_attributes(self):
        for name, tree in trees().items():
            methods, attributes = own_methods(tree), own_attributes(tree)
            self.assertEqual(set(methods) & set(attributes), set(), name)
            read = [node.attr for node in ast.walk(tree) if isinstance(node, ast.Attribute)]
            for own in read:
                self.assertIn(own, methods + attributes + METHODS, name)
            for own in methods + attributes:
                self.assertNotIn(own, METHODS + NOT_NAMES + ["sort", "args", "encode", "decode", "hex", "format"], name)
            for own in methods:
                if own.startswith("__"):
                    self.assertIn(own, ("__init__", "__eq__"), name)

    def test_strings(self):
        for name, tree in trees().items():
            docs = [node.value for node in ast.walk(tree) if isinstance(node, ast.Expr)]
            for node in ast.walk(tree):
                if isinstance(node, ast.Constant) and isinstance(node.value, str):
                    with self.subTest(file=name, line=node.lineno):
                        self.assertNotIn("%", node.value)
                        if node not in docs:
                            self.assertFalse(set(node.value.split()) & set(NOT_WORDS))


if __name__ == "__main__":
    unittest.main()
