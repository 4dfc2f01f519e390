"""The rules of the subset of Python, as far as a short look at the code can tell.

A rule that says "only where .." is checked in the narrow way in which the
package uses it so far; the full words are in LANGUAGE.md.
"""

import ast
import builtins
import re
import unittest
from pathlib import Path

PACKAGE = Path(__file__).resolve().parent.parent / "fromruns"
FILES = sorted(PACKAGE.rglob("*.py"))
TREES = {path: ast.parse(path.read_text(encoding="utf-8")) for path in FILES}

LIBRARY = {
    "heapq": {"heappush", "heappop", "heapify", "heapreplace", "heappushpop"},
    "math": {"gcd", "lcm", "isqrt", "comb", "perm", "factorial"},
    "itertools": {
        "product", "combinations", "permutations", "chain", "accumulate", "pairwise", "islice", "zip_longest",
    },
    "collections": {"defaultdict", "deque"},
}
ALLOWED_BUILTINS = set(
    "len range enumerate zip min max sum abs sorted reversed int str bool list tuple dict set isinstance ord repr any "
    "all divmod pow map iter next super property staticmethod classmethod Exception ValueError TypeError KeyError "
    "IndexError LookupError ZeroDivisionError ArithmeticError OverflowError RuntimeError NotImplementedError "
    "NotImplemented".split()
)
METHODS = set(
    "append clear copy count endswith extend find get index insert isalnum isalpha isdigit islower isspace isupper "
    "items join keys ljust lower lstrip partition pop remove replace reverse rfind rjust rpartition rsplit rstrip "
    "setdefault split splitlines startswith strip update upper values zfill bit_length sort add discard popleft "
    "appendleft extendleft rotate".split()
)
KEYWORDS = {
    "sorted": {"key", "reverse"}, "min": {"key", "default"}, "max": {"key", "default"}, "sum": {"start"},
    "enumerate": {"start"}, "zip": {"strict"},
}
NOT_USED = set("mro elements open input law version_info with_traceback add_note register".split())
NOT_AS_NAMES = NOT_USED | set(
    "attrgetter breakpoint builtins compile copyright credits delattr dir eval exec exit gc getattr globals hasattr "
    "help id importlib license locals methodcaller os quit setattr super type vars sys".split()
)
BARRED_WORDS = (
    "typing typing_extensions enum Enum IntEnum StrEnum Flag IntFlag Generic Protocol ABC ABCMeta namedtuple "
    "NamedTuple TypedDict TYPE_CHECKING abstractmethod type"
).split()
AT_ONCE = {"range", "zip", "enumerate", "reversed", "map"}
TAKERS = {"list", "tuple", "dict", "sorted", "sum", "any", "all", "enumerate", "zip", "min", "max"}
STATEMENTS = (
    ast.FunctionDef, ast.ClassDef, ast.Return, ast.Delete, ast.Assign, ast.AugAssign, ast.For, ast.While, ast.If,
    ast.Raise, ast.Try, ast.Assert, ast.ImportFrom, ast.Expr, ast.Pass, ast.Break, ast.Continue,
)


def parents_of(tree):
    return {child: node for node in ast.walk(tree) for child in ast.iter_child_nodes(node)}


def called(node):
    return node.func.id if isinstance(node, ast.Call) and isinstance(node.func, ast.Name) else None


def is_method_call(node, names):
    return isinstance(node, ast.Call) and isinstance(node.func, ast.Attribute) and node.func.attr in names


def is_set(node):
    return isinstance(node, (ast.Set, ast.SetComp)) or called(node) == "set"


def own_methods():
    return {
        part.name
        for tree in TREES.values()
        for node in ast.walk(tree)
        if isinstance(node, ast.ClassDef)
        for part in node.body
        if isinstance(part, ast.FunctionDef)
    }


def top_names(tree):
    names = []
    for node in tree.body:
        if isinstance(node, (ast.FunctionDef, ast.ClassDef)):
            names.append(node.name)
        elif isinstance(node, ast.Assign):
            names.extend(target.id for target in node.targets)
        elif isinstance(node, ast.ImportFrom):
            names.extend(alias.name for alias in node.names)
    return names


class Rules(unittest.TestCase):
    def each(self, *kinds):
        for path, tree in TREES.items():
            for node in ast.walk(tree):
                if isinstance(node, kinds):
                    yield f"{path.name}:{getattr(node, 'lineno', 0)}", node

    def test_files(self):
        found = [path for path in PACKAGE.rglob("*") if "__pycache__" not in path.parts and path.is_file()]
        self.assertEqual(sorted(found), FILES)
        for path in FILES:
            self.assertRegex(path.name, r"^([a-z][a-z0-9_]*|__init__)\.py$")
            text = path.read_text(encoding="utf-8")
            self.assertTrue(all(" " <= sign <= "~" or sign == "\n" for sign in text), path.name)
            self.assertLessEqual(len(text.splitlines()), 399)
            for row in text.splitlines():
                self.assertLessEqual(len(row), 120, f"{path.name}: {row}")

    def test_functions_are_short_and_plain(self):
        for place, node in self.each(ast.FunctionDef):
            self.assertLessEqual(node.end_lineno - node.lineno + 1, 40, place)
            for decorator in node.decorator_list:
                self.assertIn(ast.unparse(decorator).split(".")[-1], "property setter staticmethod classmethod", place)
        for place, node in self.each(ast.ClassDef):
            self.assertEqual(node.decorator_list, [], place)

    def test_stars_among_parameters(self):
        for place, node in self.each(ast.ClassDef):
            for part in [inner for inner in node.body if isinstance(inner, ast.FunctionDef)]:
                static = [ast.unparse(decorator) for decorator in part.decorator_list] == ["staticmethod"]
                self.assertTrue(static or part.args.args, place)
                if part.name.startswith("__") and part.name != "__init__":
                    self.assertFalse(part.args.vararg or part.args.kwarg or part.args.kwonlyargs, place)
                if part.args.kwonlyargs:
                    self.assertNotIn(part.name, METHODS, place)

    def test_double_underscore_methods(self):
        for place, node in self.each(ast.FunctionDef):
            if not node.name.startswith("__"):
                continue
            self.assertIn(node.name, ("__init__", "__contains__", "__bool__", "__call__", "__iter__"), place)
            self.assertEqual(node.decorator_list, [], place)
            rows = [row for row in node.body if not isinstance(row, ast.Expr) or isinstance(row.value, ast.Call)]
            if node.name == "__init__":
                self.assertFalse([part for part in ast.walk(node) if isinstance(part, ast.Return)], place)
                continue
            # Each is a single return, which changes nothing.
            self.assertEqual([type(row) for row in rows], [ast.Return], place)
            if node.name == "__iter__":
                self.assertRegex(ast.unparse(rows[0]), r"^return iter\(self\.[a-z_]+\)$")

    def test_properties_only_measure(self):
        for place, node in self.each(ast.FunctionDef):
            if "property" in [ast.unparse(decorator) for decorator in node.decorator_list]:
                self.assertRegex(ast.unparse(node.body[-1]), r"^return len\(self\.[a-z_]+(\[0\])?\)$", place)
                self.assertEqual([type(row) for row in node.body], [ast.Expr, ast.Return], place)

    def test_no_name_is_an_attribute_and_a_method(self):
        stored = {
            node.attr for _, node in self.each(ast.Attribute) if isinstance(node.ctx, ast.Store)
        }
        self.assertEqual(stored & own_methods(), set())

    def test_what_is_imported_is_only_called(self):
        for path, tree in TREES.items():
            parents = parents_of(tree)
            names = {
                alias.name
                for node in tree.body
                if isinstance(node, ast.ImportFrom) and node.module in LIBRARY
                for alias in node.names
            }
            for node in ast.walk(tree):
                if isinstance(node, ast.Name) and node.id in names:
                    self.assertTrue(isinstance(parents[node], ast.Call) and parents[node].func is node, path.name)

    def test_statements(self):
        for place, node in self.each(ast.stmt):
            self.assertIsInstance(node, STATEMENTS, place)

    def test_module_level(self):
        for path, tree in TREES.items():
            self.assertEqual(len(top_names(tree)), len(set(top_names(tree))), path.name)
            for at, node in enumerate(tree.body):
                docstring = at == 0 and isinstance(node, ast.Expr)
                plain = isinstance(node, (ast.FunctionDef, ast.ClassDef, ast.ImportFrom, ast.Assign))
                self.assertTrue(docstring or plain, path.name)

    def test_imports(self):
        uses = {}
        for path, tree in TREES.items():
            imports = [node for node in ast.walk(tree) if isinstance(node, ast.ImportFrom)]
            self.assertTrue(all(node in tree.body and node.level == 0 for node in imports))
            for node in imports:
                self.assertTrue(all(alias.asname is None for alias in node.names))
                names = {alias.name for alias in node.names}
                if node.module in LIBRARY:
                    self.assertLessEqual(names, LIBRARY[node.module])
                    continue
                self.assertRegex(node.module, r"^fromruns\.[a-z0-9_]+$")
                other = PACKAGE / (node.module.split(".")[1] + ".py")
                made = [part for part in TREES[other].body if not isinstance(part, ast.ImportFrom)]
                self.assertLessEqual(names, set(top_names(ast.Module(made, []))), path.name)
                uses.setdefault(path, set()).add(other)
        left = dict.fromkeys(FILES)
        while left:
            free = [path for path in left if not any(other in left for other in uses.get(path, ()))]
            self.assertTrue(free, f"these import from each other: {list(left)}")
            for path in free:
                del left[path]

    def test_no_floats_and_no_true_division(self):
        for place, node in self.each(ast.Constant, ast.Div, ast.Pow, ast.Await, ast.JoinedStr):
            self.assertNotIsInstance(node, (ast.Div, ast.Await), place)
            self.assertNotIsInstance(getattr(node, "value", None), (float, complex), place)

    def test_strings(self):
        for place, node in self.each(ast.Constant):
            if isinstance(node.value, str) and "\n" not in node.value:
                self.assertNotIn("%", node.value, place)
                self.assertNotRegex(node.value, r"(^__.*__$|\._$|\.__$)", place)

    def test_builtins(self):
        for path, tree in TREES.items():
            made = {node.id for node in ast.walk(tree) if isinstance(node, ast.Name) and isinstance(node.ctx, ast.Store)}
            made |= {node.arg for node in ast.walk(tree) if isinstance(node, ast.arg)}
            made |= set(top_names(tree)) | {"self"}
            for name in made:
                self.assertFalse(hasattr(builtins, name), f"{path.name}: {name}")
                self.assertNotIn(name, NOT_AS_NAMES, path.name)
                self.assertRegex(name, r"^(_|_?[A-Za-z][A-Za-z0-9_]*)$")
            for node in ast.walk(tree):
                if isinstance(node, ast.Name) and hasattr(builtins, node.id):
                    self.assertIn(node.id, ALLOWED_BUILTINS, f"{path.name}:{node.lineno}")

    def test_local_names_are_no_imports_and_no_classes(self):
        for path, tree in TREES.items():
            classes = {node.name for node in tree.body if isinstance(node, ast.ClassDef)}
            imports = {alias.name for node in tree.body if isinstance(node, ast.ImportFrom) for alias in node.names}
            for node in ast.walk(tree):
                local = None
                if isinstance(node, ast.arg):
                    local = node.arg
                elif isinstance(node, ast.Name) and isinstance(node.ctx, ast.Store):
                    local = node.id
                elif isinstance(node, ast.FunctionDef) and node not in tree.body:
                    local = node.name
                self.assertNotIn(local, classes | imports, path.name)

    def test_underscore_is_never_read(self):
        for place, node in self.each(ast.Name):
            self.assertFalse(node.id == "_" and isinstance(node.ctx, ast.Load), place)

    def test_barred_words(self):
        for path, tree in TREES.items():
            for node in ast.walk(tree):
                for word in (getattr(node, "id", None), getattr(node, "attr", None), getattr(node, "arg", None)):
                    self.assertNotIn(word, NOT_USED, path.name)
            code = re.sub(r'""".*?"""', "", path.read_text(encoding="utf-8"), flags=re.DOTALL)
            code = re.sub(r"#.*", "", code)
            for word in BARRED_WORDS:
                self.assertIsNone(re.search(rf"\b{word}\b", code), f"{path.name}: {word}")
            for word in ("dataclass", "overload", "contextmanager"):
                self.assertNotIn(word, code)

    def test_methods(self):
        own = own_methods()
        for place, node in self.each(ast.Call):
            if isinstance(node.func, ast.Attribute):
                self.assertIn(node.func.attr, METHODS | own, place)
                if node.func.attr in METHODS - own:
                    allowed = {"key", "reverse"} if node.func.attr == "sort" else set()
                    self.assertLessEqual({keyword.arg for keyword in node.keywords}, allowed, place)
            elif called(node) in ALLOWED_BUILTINS:
                names = {keyword.arg for keyword in node.keywords}
                self.assertLessEqual(names, KEYWORDS.get(called(node), set()), place)

    def test_is_stands_beside_none_true_and_false(self):
        for place, node in self.each(ast.Compare):
            for sign, other in zip(node.ops, node.comparators):
                if isinstance(sign, (ast.Is, ast.IsNot)):
                    self.assertTrue(isinstance(other, ast.Constant) and other.value in (None, True, False), place)

    def test_exponents(self):
        for place, node in self.each(ast.BinOp):
            if isinstance(node.op, ast.Pow):
                self.assertTrue(isinstance(node.right, ast.Constant) and 0 <= node.right.value <= 64, place)

    def test_sets_are_never_iterated(self):
        for path, tree in TREES.items():
            parents = parents_of(tree)
            for node in ast.walk(tree):
                if not is_set(node):
                    continue
                place = f"{path.name}:{node.lineno}"
                parent = parents[node]
                good = called(parent) in ("sorted", "len") and parent.args == [node] and not parent.keywords
                good = good or isinstance(parent, ast.Compare)
                good = good or isinstance(parent, ast.Assign) and isinstance(parent.targets[0], ast.Name)
                self.assertTrue(good, place)
                if isinstance(parent, ast.Assign):
                    self.check_stored_set(tree, parents, parent, place)

    def check_stored_set(self, tree, parents, assignment, place):
        name = assignment.targets[0].id
        function = assignment
        while not isinstance(function, ast.FunctionDef):
            function = parents[function]
        for node in ast.walk(function):
            if isinstance(node, ast.Name) and node.id == name and node is not assignment.targets[0]:
                parent = parents[node]
                good = isinstance(parent, ast.Compare) or called(parent) in ("len", "sorted")
                good = good or isinstance(parent, ast.Attribute) and parent.attr in ("add", "discard")
                self.assertTrue(good, place)

    def test_ranges_and_views_are_iterated_at_once(self):
        for path, tree in TREES.items():
            parents = parents_of(tree)
            for node in ast.walk(tree):
                if called(node) not in AT_ONCE and not is_method_call(node, ("items", "keys", "values")):
                    continue
                parent = parents[node]
                good = isinstance(parent, (ast.For, ast.comprehension)) and parent.iter is node
                good = good or called(parent) in TAKERS or is_method_call(parent, ("join",))
                good = good or called(parent) == "reversed" and called(node) == "range"
                good = good or called(node) == "range" and isinstance(parent, ast.Compare)
                self.assertTrue(good, f"{path.name}:{node.lineno}")

    def test_generator_expressions(self):
        for path, tree in TREES.items():
            parents = parents_of(tree)
            for node in ast.walk(tree):
                if isinstance(node, ast.GeneratorExp):
                    parent = parents[node]
                    good = called(parent) in TAKERS - {"enumerate", "zip", "sorted"} | {"next"}
                    self.assertTrue(good or is_method_call(parent, ("join",)), f"{path.name}:{node.lineno}")

    def test_loops_do_not_change_what_they_go_over(self):
        changing = ("append", "extend", "insert", "pop", "remove", "clear", "update", "setdefault", "add", "discard")
        for place, node in self.each(ast.For):
            for name in ast.walk(node.iter):
                if not isinstance(name, ast.Name):
                    continue
                for part in [inner for row in node.body for inner in ast.walk(row)]:
                    if is_method_call(part, changing):
                        self.assertNotEqual(ast.unparse(part.func.value), name.id, place)


if __name__ == "__main__":
    unittest.main()
