"""The rules of the language that can be read off the files of the package."""

import ast
import builtins
import functools
import pathlib
import re
import unittest
import warnings

DUNDERS = ("__init__", "__eq__", "__len__", "__str__")
PACKAGE = pathlib.Path(__file__).resolve().parent.parent / "ledquestions"
FILES = sorted(PACKAGE.glob("*.py"))
CALLED = set(
    "len range enumerate zip min max sum abs sorted reversed int str bool list tuple dict set isinstance ord repr "
    "any all divmod iter next ValueError super property".split()
)
METHODS = set(
    "append clear copy count endswith extend find get index insert isalnum isalpha isdigit islower isspace isupper "
    "items join keys ljust lower lstrip partition pop remove replace reverse rfind rjust rpartition rsplit rstrip "
    "setdefault split splitlines startswith strip update upper values zfill bit_length add discard __init__".split()
)
WORDS = set(
    "type typing typing_extensions enum Enum IntEnum StrEnum Flag IntFlag Generic Protocol ABC ABCMeta namedtuple "
    "NamedTuple TypedDict TYPE_CHECKING abstractmethod".split()
)
NEVER = set(
    "register mro elements open input version_info with_traceback add_note attrgetter breakpoint builtins compile "
    "copyright credits delattr dir eval exec exit gc getattr globals hasattr help id importlib license locals "
    "methodcaller os quit setattr type vars sys format chr print".split()
)
BANNED = (
    ast.GeneratorExp, ast.Yield, ast.YieldFrom, ast.Await, ast.AsyncFunctionDef, ast.AsyncFor, ast.AsyncWith,
    ast.Global, ast.Div, ast.Match, ast.With, ast.Import,
)


@functools.lru_cache(maxsize=None)
def trees():
    return [(path, ast.parse(path.read_text())) for path in FILES]


def nodes(kinds):
    return [(path, node) for path, tree in trees() for node in ast.walk(tree) if isinstance(node, kinds)]


def stored(tree):
    """All names that are given a meaning anywhere in a tree."""
    for node in ast.walk(tree):
        if isinstance(node, ast.Name) and isinstance(node.ctx, ast.Store):
            yield node.id
        elif isinstance(node, ast.arg):
            yield node.arg
        elif isinstance(node, (ast.FunctionDef, ast.ClassDef)):
            yield node.name
        elif isinstance(node, ast.ExceptHandler) and node.name:
            yield node.name
        elif isinstance(node, ast.alias):
            yield node.asname or node.name


def methods(node):
    return [part for part in node.body if isinstance(part, ast.FunctionDef)]


def attributes(tree):
    """All attributes that are given a value anywhere in a tree."""
    found = [node for node in ast.walk(tree) if isinstance(node, ast.Attribute)]
    return {node.attr for node in found if isinstance(node.ctx, ast.Store)}


class Language(unittest.TestCase):
    def told(self, path, node, right):
        self.assertTrue(right, f"{path.name}:{getattr(node, 'lineno', '?')}")

    def test_the_folder_has_plain_files_alone(self):
        names = [path.name for path in PACKAGE.iterdir() if path.name != "__pycache__"]
        self.assertIn("__init__.py", names)
        self.assertLessEqual(len(names), 100)
        for name in names:
            self.assertRegex(name, r"\A(__init__|[a-z][a-z0-9_]*)\.py\Z")

    def test_signs_words_and_sizes(self):
        for path in FILES:
            text = path.read_text()
            self.assertRegex(text, r"\A[ -~\n]*\Z", path.name)
            self.assertLessEqual(len(text.splitlines()), 400, path.name)
            self.assertFalse(WORDS & set(re.findall(r"\w+", text)), path.name)
            for word in ("dataclass", "overload", "contextmanager"):
                self.assertNotIn(word, text, path.name)
            for line in text.splitlines():
                self.assertLessEqual(len(line), 120, path.name)

    def test_python_gives_no_warning(self):
        with warnings.catch_warnings():
            warnings.simplefilter("error")
            for path in FILES:
                compile(path.read_text(), path.name, "exec")

    def test_small_functions(self):
        for path, node in nodes(ast.FunctionDef):
            self.told(path, node, node.end_lineno - node.lineno < 40)
            self.told(path, node, not node.decorator_list and not node.args.posonlyargs)

    def test_nothing_that_the_language_leaves_out(self):
        for path, node in nodes(BANNED):
            self.told(path, node, False)

    def test_literals(self):
        for path, node in nodes(ast.Constant):
            self.told(path, node, not isinstance(node.value, (float, complex)))
            if isinstance(node.value, str):
                self.told(path, node, "%" not in node.value)

    def test_imports_are_of_the_package_alone_and_never_lead_round(self):
        leads = {path.stem: [] for path in FILES}
        for path, tree in trees():
            for node in ast.walk(tree):
                if isinstance(node, ast.ImportFrom):
                    self.told(path, node, node in tree.body and node.level == 0)
                    self.assertRegex(node.module, r"\Aledquestions\.[a-z]+\Z")
                    self.told(path, node, all(alias.name != "*" for alias in node.names))
                    module = dict((p.stem, t) for p, t in trees())[node.module.split(".")[1]]
                    tops = [x for part in module.body if not isinstance(part, ast.ImportFrom) for x in stored(part)]
                    self.told(path, node, all(alias.name in tops for alias in node.names))
                    leads[path.stem].append(node.module.split(".")[1])
        done = []
        while len(done) < len(leads):
            more = [name for name in leads if name not in done and all(there in done for there in leads[name])]
            self.assertTrue(more, "imports lead round")
            done += more

    def test_module_level(self):
        for path, tree in trees():
            names = []
            for node in tree.body:
                plain = isinstance(node, ast.Expr) and isinstance(node.value, ast.Constant)
                kinds = (ast.ImportFrom, ast.FunctionDef, ast.ClassDef, ast.Assign)
                self.told(path, node, plain or isinstance(node, kinds))
                if isinstance(node, ast.Assign):
                    names += [target.id for target in node.targets]
                elif isinstance(node, (ast.FunctionDef, ast.ClassDef)):
                    names.append(node.name)
                elif isinstance(node, ast.ImportFrom):
                    names += [alias.asname or alias.name for alias in node.names]
            self.assertEqual(len(names), len(set(names)), path.name)

    def test_plain_names_that_hide_nothing(self):
        for path, tree in trees():
            taken = {node.name for node in tree.body if isinstance(node, (ast.ClassDef, ast.FunctionDef))}
            for node in tree.body:
                if isinstance(node, ast.ImportFrom):
                    taken |= {alias.asname or alias.name for alias in node.names}
            for name in stored(tree):
                if name in DUNDERS:
                    continue
                self.assertFalse(name.startswith("_"), (path.name, name))
                self.assertNotIn(name, NEVER, path.name)
                self.assertFalse(hasattr(builtins, name), (path.name, name))
            for node in ast.walk(tree):
                if isinstance(node, ast.FunctionDef):
                    inside = set(stored(node)) - {node.name}
                    self.assertFalse(inside & taken, (path.name, node.name, inside & taken))

    def test_builtins_and_methods(self):
        own = {method.name for path, node in nodes(ast.ClassDef) for method in methods(node)}
        for path, tree in trees():
            for node in ast.walk(tree):
                if isinstance(node, ast.Call) and isinstance(node.func, ast.Name) and hasattr(builtins, node.func.id):
                    self.assertIn(node.func.id, CALLED, path.name)
                if isinstance(node, ast.Call) and isinstance(node.func, ast.Attribute):
                    self.assertIn(node.func.attr, METHODS | own, path.name)

    def test_is_with_none_true_and_false_alone(self):
        for path, node in nodes(ast.Compare):
            for sign, right in zip(node.ops, node.comparators):
                if isinstance(sign, (ast.Is, ast.IsNot)):
                    constant = isinstance(right, ast.Constant) and (right.value is None or isinstance(right.value, bool))
                    self.told(path, node, constant)

    def test_sets_stand_in_sorted_and_len_alone(self):
        fine = []
        for path, tree in trees():
            for node in ast.walk(tree):
                if isinstance(node, ast.Call) and isinstance(node.func, ast.Name) and node.func.id in ("sorted", "len"):
                    fine += node.args
            for node in ast.walk(tree):
                made = isinstance(node, ast.Call) and isinstance(node.func, ast.Name) and node.func.id == "set"
                if made or isinstance(node, (ast.Set, ast.SetComp)):
                    self.told(path, node, node in fine)

    def test_no_name_is_a_method_here_and_an_attribute_there(self):
        told = {method.name for path, node in nodes(ast.ClassDef) for method in methods(node)} - set(DUNDERS)
        had = {name for path, tree in trees() for name in attributes(tree)}
        self.assertFalse(told & had)
        for kind in (str, int, list, dict, set, bytes, tuple):
            self.assertFalse((told | had) & set(dir(kind)) - {"count", "index"}, kind)

    def test_double_underscore_methods_assign_nothing_and_end_in_a_return(self):
        for path, node in nodes(ast.ClassDef):
            for method in methods(node):
                if method.name in DUNDERS[1:]:
                    last = method.body[-1]
                    self.told(path, method, isinstance(last, ast.Return))
                    self.told(path, method, not [x for x in ast.walk(method) if isinstance(x, (ast.Assign, ast.AugAssign))])
                    if method.name != "__eq__":
                        called = isinstance(last.value, ast.Call) and last.value.func.id
                        self.told(path, method, called == {"__len__": "len", "__str__": "str"}[method.name])

    def test_loops_change_nothing_that_they_go_over(self):
        changing = ("append", "extend", "pop", "remove", "clear", "insert", "update", "setdefault")
        for path, node in nodes(ast.For):
            over = ast.unparse(node.iter)
            for inner in ast.walk(node):
                if isinstance(inner, ast.Call) and isinstance(inner.func, ast.Attribute) and inner.func.attr in changing:
                    self.told(path, inner, ast.unparse(inner.func.value) != over)

    def test_errors_are_made_where_they_are_raised(self):
        for path, node in nodes(ast.Raise):
            self.told(path, node, node.exc is None or isinstance(node.exc, ast.Call))


if __name__ == "__main__":
    unittest.main()
