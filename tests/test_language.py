"""The rules of LANGUAGE.md that a look at the files can tell, held on each file of the package."""

import ast
import builtins
import re
import unittest
from pathlib import Path

ROOT = Path(__file__).resolve().parent.parent
PACKAGE = ROOT / "waysback"
FILES = sorted(PACKAGE.glob("*.py"))

BUILTINS = set(
    "len range enumerate zip min max sum abs sorted reversed int str bool list tuple dict set "
    "isinstance ord repr any all divmod getattr hasattr iter next map type "
    "Exception ValueError TypeError KeyError IndexError LookupError NotImplemented".split()
)
PYTHON_NAMES = set(dir(builtins))
METHODS = set(
    "append clear copy count endswith extend find get index insert isalnum isalpha isdigit islower "
    "isspace isupper items join keys ljust lower lstrip partition pop remove replace reverse rfind "
    "rjust rpartition rsplit rstrip setdefault split splitlines startswith strip update upper values "
    "zfill bit_length isascii removeprefix removesuffix rindex add discard appendleft popleft".split()
)
VALUE_METHODS = set(dir(str)) | set(dir(list)) | set(dir(dict)) | set(dir(int)) | set(dir(set)) | set(dir(bytes))
STATEMENTS = (
    ast.Assign, ast.AugAssign, ast.If, ast.While, ast.For, ast.Return, ast.Break, ast.Continue,
    ast.Pass, ast.Raise, ast.Assert, ast.Delete, ast.Expr, ast.Try, ast.FunctionDef, ast.ClassDef,
    ast.ImportFrom, ast.Nonlocal,
)
BARRED_NODES = (
    ast.AsyncFunctionDef, ast.Await, ast.Global, ast.Import, ast.Div, ast.MatMult, ast.Set,
    ast.GeneratorExp, ast.Yield, ast.YieldFrom, ast.AnnAssign, ast.NamedExpr, ast.Starred,
)
IMPORTED = {"heapq", "math", "itertools", "collections"}
BARRED_NAMES = set(
    "mro elements open input law version_info with_traceback add_note register attrgetter breakpoint "
    "builtins compile copyright credits delattr dir eval exec exit gc globals help id importlib license "
    "locals methodcaller os quit super vars sys".split()
)
BARRED_WORDS = (
    "typing typing_extensions enum Enum IntEnum StrEnum Flag IntFlag Generic Protocol ABC ABCMeta namedtuple "
    "NamedTuple TypedDict TYPE_CHECKING abstractmethod _wall _WallAttr".split()
)
ONCE = {"zip", "enumerate", "reversed"}
OPERATORS = {"__eq__", "__init__", "__repr__", "__str__", "__len__"}


def bound_names(tree):
    """All names that functions, classes, parameters and assignments bind."""
    names = []
    for node in ast.walk(tree):
        if isinstance(node, (ast.FunctionDef, ast.ClassDef)):
            names.append(node.name)
        elif isinstance(node, ast.arg):
            names.append(node.arg)
        elif isinstance(node, ast.Name) and isinstance(node.ctx, ast.Store):
            names.append(node.id)
    return names


def parents_of(tree):
    """The dict of the node above each node."""
    return {child: node for node in ast.walk(tree) for child in ast.iter_child_nodes(node)}


class LanguageTest(unittest.TestCase):
    def setUp(self):
        self.texts = {path: path.read_text(encoding="utf-8") for path in FILES}
        self.trees = {path: ast.parse(text) for path, text in self.texts.items()}

    def each_node(self):
        for path, tree in self.trees.items():
            for node in ast.walk(tree):
                yield f"{path.name}:{getattr(node, 'lineno', 0)}", node

    def test_folder_holds_plain_python_files_alone(self):
        self.assertLessEqual(len(FILES), 100)
        for path in PACKAGE.iterdir():
            if path.name != "__pycache__":
                self.assertRegex(path.name, r"^[a-z_][a-z0-9_]*\.py$")

    def test_characters_and_sizes(self):
        for path, text in self.texts.items():
            self.assertNotRegex(text, r"[^ -~\n]", path.name)
            lines = text.split("\n")
            self.assertLessEqual(len(lines), 400, path.name)
            self.assertLessEqual(max(map(len, lines)), 120, path.name)
            self.assertNotRegex(text, r"\b_?(" + "|".join(BARRED_WORDS) + r")\b", path.name)
        for where, node in self.each_node():
            if isinstance(node, ast.FunctionDef):
                self.assertLessEqual(node.end_lineno - node.lineno + 1, 40, where)

    def test_statements_and_nodes(self):
        for where, node in self.each_node():
            if isinstance(node, ast.stmt):
                self.assertIsInstance(node, STATEMENTS, where)
            self.assertNotIsInstance(node, BARRED_NODES, where)
            if isinstance(node, (ast.FunctionDef, ast.ClassDef)):
                self.assertEqual(node.decorator_list, [], where)
            if isinstance(node, ast.Constant):
                self.assertNotIsInstance(node.value, (float, complex, bytes), where)
                if isinstance(node.value, str):
                    self.assertNotIn("%", node.value, where)
            if isinstance(node, ast.Compare) and isinstance(node.ops[0], (ast.Is, ast.IsNot)):
                self.assertIsInstance(node.comparators[0], ast.Constant, where)
            if isinstance(node, ast.Try):
                caught = [handler.type.id for handler in node.handlers]
                self.assertLessEqual(set(caught), {"KeyError"} | self.own_errors(), where)

    def own_errors(self):
        return set(bound_names(self.trees[PACKAGE / "errors.py"]))

    def test_module_level(self):
        for path, tree in self.trees.items():
            self.assertIsNotNone(ast.get_docstring(tree), path.name)
            bound = []
            for node in tree.body[1:]:
                where = f"{path.name}:{node.lineno}"
                self.assertIsInstance(node, (ast.ImportFrom, ast.FunctionDef, ast.ClassDef, ast.Assign), where)
                if isinstance(node, ast.ImportFrom):
                    bound += [alias.name for alias in node.names]
                elif isinstance(node, ast.Assign):
                    self.assertEqual(len(node.targets), 1, where)
                    self.assertIsInstance(node.targets[0], ast.Name, where)
                    ast.literal_eval(node.value)
                    bound.append(node.targets[0].id)
                else:
                    bound.append(node.name)
            self.assertEqual(len(bound), len(set(bound)), path.name)

    def test_imports(self):
        graph = {}
        for path, tree in self.trees.items():
            graph[path.stem] = []
            for node in [node for node in ast.walk(tree) if isinstance(node, ast.ImportFrom)]:
                where = f"{path.name}:{node.lineno}"
                self.assertEqual(node.level, 0, where)
                self.assertIn(node, tree.body, where)
                self.assertEqual([alias.asname for alias in node.names], [None] * len(node.names), where)
                if node.module in IMPORTED:
                    continue
                self.assertTrue(node.module.startswith("waysback."), where)
                source = node.module.split(".")[1]
                graph[path.stem].append(source)
                defined = [
                    name.id if isinstance(name, ast.Name) else name.name
                    for item in self.trees[PACKAGE / f"{source}.py"].body
                    for name in (item.targets if isinstance(item, ast.Assign) else [item])
                    if isinstance(name, (ast.Name, ast.FunctionDef, ast.ClassDef))
                ]
                for alias in node.names:
                    self.assertIn(alias.name, defined, where)
                    self.assertGreater(len(re.findall(rf"\b{alias.name}\b", self.texts[path])), 1, where)
        self.assertEqual(graph.get("__init__", []), [])
        while graph:
            free = [name for name, ahead in graph.items() if not set(ahead) & set(graph)]
            self.assertTrue(free, f"files import from each other: {sorted(graph)}")
            for name in free:
                del graph[name]

    def test_names(self):
        for path, tree in self.trees.items():
            taken = {alias.name for node in tree.body if isinstance(node, ast.ImportFrom) for alias in node.names}
            taken |= {node.name for node in tree.body if isinstance(node, ast.ClassDef)}
            tops = {id(node) for node in tree.body}
            for node in ast.walk(tree):
                if isinstance(node, (ast.FunctionDef, ast.ClassDef)):
                    name = node.name
                elif isinstance(node, ast.arg):
                    name = node.arg
                elif isinstance(node, ast.Name) and isinstance(node.ctx, ast.Store):
                    name = node.id
                else:
                    continue
                where = f"{path.name}:{node.lineno} {name}"
                self.assertNotIn(name, PYTHON_NAMES, where)
                self.assertNotIn(name, BARRED_NAMES, where)
                if name not in OPERATORS and name != "_":
                    self.assertRegex(name, r"^_?[A-Za-z][A-Za-z0-9_]*$", where)
                if id(node) not in tops:
                    self.assertNotIn(name, taken, where)

    def test_builtins_and_methods(self):
        methods, attributes = set(), set()
        for _, node in self.each_node():
            if isinstance(node, ast.ClassDef):
                methods |= {item.name for item in node.body if isinstance(item, ast.FunctionDef)}
            if isinstance(node, ast.Attribute) and isinstance(node.ctx, ast.Store):
                attributes.add(node.attr)
        barred = VALUE_METHODS - {"count", "index", "title", "find", "copy", "add"}
        self.assertEqual((methods - OPERATORS | attributes) & barred, set())
        for where, node in self.each_node():
            if isinstance(node, ast.Attribute):
                self.assertIn(node.attr, METHODS | methods | attributes, where)
            if isinstance(node, ast.Name) and isinstance(node.ctx, ast.Load) and node.id in PYTHON_NAMES:
                self.assertIn(node.id, BUILTINS, where)

    def test_iterated_at_once(self):
        for path, tree in self.trees.items():
            above = parents_of(tree)
            for node in ast.walk(tree):
                if not isinstance(node, ast.Call) or not isinstance(node.func, ast.Name):
                    continue
                where = f"{path.name}:{node.lineno} {node.func.id}"
                over = above[node]
                if node.func.id in ONCE:
                    in_loop = isinstance(over, (ast.For, ast.comprehension)) and over.iter is node
                    in_call = isinstance(over, ast.Call) and over.func.id in {
                        "list", "tuple", "dict", "sorted", "sum", "enumerate",
                    }
                    self.assertTrue(in_loop or in_call, where)
                if node.func.id == "set":
                    self.assertIsInstance(over, (ast.Assign, ast.Compare), where)

    def test_equality_is_one_return_or_asks_for_the_class_first(self):
        for where, node in self.each_node():
            if isinstance(node, ast.FunctionDef) and node.name == "__eq__":
                self.assertEqual(len(node.body), 1, where)
                self.assertTrue(ast.unparse(node.body[0]).startswith("return isinstance(other, "), where)


if __name__ == "__main__":
    unittest.main()
