"""The rules of LANGUAGE.md that can be read off the files of the package."""

import ast
import builtins
import pathlib
import re
import unittest

FOLDER = pathlib.Path(__file__).resolve().parent.parent / "isthmus"
FILES = sorted(path for path in FOLDER.iterdir() if path.name != "__pycache__")
TREES = {path: ast.parse(path.read_text()) for path in FILES if path.suffix == ".py"}

# Fewer kinds of syntax than the rules allow: the package needs no more.
NODES = {"Module", "Expr", "Constant", "ImportFrom", "alias", "ClassDef", "FunctionDef", "Lambda", "arguments", "arg",
         "Assign", "AugAssign", "Return", "If", "IfExp", "While", "For", "Continue", "Break", "Pass", "Raise", "Call",
         "Name", "Load", "Store", "Attribute", "Subscript", "Slice", "Tuple", "List", "Dict", "ListComp", "DictComp",
         "comprehension", "BinOp", "Add", "Sub", "Mult", "FloorDiv", "UnaryOp", "USub", "Not", "BoolOp", "And",
         "Or", "Compare", "Try", "ExceptHandler", "Eq", "NotEq", "Lt", "LtE", "Gt", "GtE", "In", "NotIn", "Is", "IsNot",
         "JoinedStr", "FormattedValue"}
LIBRARY = {"itertools": ["permutations"], "math": ["gcd"]}
BUILTINS = {"len", "range", "enumerate", "zip", "min", "max", "sum", "abs", "sorted", "reversed", "int", "str", "bool",
            "list", "tuple", "dict", "isinstance", "repr", "any", "all", "divmod", "ValueError"}
METHODS = {"append", "clear", "copy", "count", "endswith", "extend", "find", "get", "index", "insert", "items", "join",
           "keys", "pop", "remove", "replace", "reverse", "setdefault", "split", "startswith", "update", "values",
           "zfill"}
BARRED = {"register", "mro", "elements", "open", "input", "law", "version_info", "with_traceback", "add_note",
          "attrgetter", "breakpoint", "builtins", "compile", "copyright", "credits", "delattr", "dir", "eval", "exec",
          "exit", "gc", "getattr", "globals", "hasattr", "help", "id", "importlib", "license", "locals",
          "methodcaller", "os", "quit", "setattr", "super", "type", "vars", "sys"}
BARRED_WORDS = {"type", "typing", "typing_extensions", "enum", "Enum", "IntEnum", "StrEnum", "Flag", "IntFlag",
                "Generic", "Protocol", "ABC", "ABCMeta", "namedtuple", "NamedTuple", "TypedDict", "TYPE_CHECKING",
                "abstractmethod"}


def walk(tree, kind):
    return [node for node in ast.walk(tree) if isinstance(node, kind)]


def bound_in(function):
    names = [arg.arg for arg in function.args.args + function.args.kwonlyargs]
    names += [node.id for node in walk(function, ast.Name) if isinstance(node.ctx, ast.Store)]
    return names


class LanguageTest(unittest.TestCase):

    def test_files(self):
        for path in FILES:
            self.assertRegex(path.name, r"^[a-z0-9_]+\.py$")
        for path in TREES:
            lines = path.read_text().split("\n")
            self.assertTrue(path.read_text().isascii())
            self.assertLessEqual(len(lines), 399)
            self.assertLessEqual(max(len(line) for line in lines), 120)
            self.assertNotIn("\t", path.read_text())

    def test_syntax(self):
        for tree in TREES.values():
            self.assertLessEqual({type(node).__name__ for node in ast.walk(tree)}, NODES)

    def test_sizes_of_functions(self):
        for tree in TREES.values():
            for node in walk(tree, ast.FunctionDef):
                self.assertLessEqual(node.end_lineno - node.lineno + 1, 40, node.name)
                self.assertEqual(node.decorator_list, [])
                self.assertTrue(ast.get_docstring(node) or node.name == "__init__", node.name)

    def test_imports(self):
        above = {}
        for path, tree in TREES.items():
            above[path.stem] = set()
            for node in tree.body:
                if not isinstance(node, ast.ImportFrom):
                    continue
                names = [alias.name for alias in node.names]
                self.assertTrue(all(alias.asname is None for alias in node.names))
                if node.module in LIBRARY:
                    self.assertEqual(names, LIBRARY[node.module])
                else:
                    package, stem = node.module.split(".")
                    self.assertEqual(package, "isthmus")
                    above[path.stem].add(stem)
                    there = TREES[FOLDER / (stem + ".py")].body
                    told = [n.name for n in there if isinstance(n, (ast.ClassDef, ast.FunctionDef))]
                    told += [n.targets[0].id for n in there if isinstance(n, ast.Assign)]
                    self.assertLessEqual(set(names), set(told))
                used = {n.id for n in walk(tree, ast.Name)}
                self.assertLessEqual(set(names), used, "an import that is not used")
        self.assertEqual(len(walk(ast.Module(sum([t.body for t in TREES.values()], []), []), ast.Import)), 0)
        while above:
            free = [stem for stem in above if not above[stem]]
            self.assertTrue(free, f"imports go round in {sorted(above)}")
            for stem in free:
                del above[stem]
            for rest in above.values():
                rest.difference_update(free)

    def test_module_level(self):
        for tree in TREES.values():
            names = []
            for node in tree.body:
                if isinstance(node, ast.Assign):
                    self.assertEqual(len(node.targets), 1)
                    names.append(node.targets[0].id)
                elif isinstance(node, (ast.ClassDef, ast.FunctionDef)):
                    names.append(node.name)
                elif isinstance(node, ast.ImportFrom):
                    names += [alias.name for alias in node.names]
                else:
                    self.assertIsNotNone(ast.get_docstring(tree))
                    self.assertIs(node, tree.body[0])
            self.assertEqual(len(names), len(set(names)))

    def test_names(self):
        for path, tree in TREES.items():
            taken = {alias.name for node in walk(tree, ast.ImportFrom) for alias in node.names}
            taken |= {node.name for node in walk(tree, ast.ClassDef)}
            names = {node.id for node in walk(tree, ast.Name)}
            names |= {node.name for node in walk(tree, (ast.FunctionDef, ast.ClassDef))}
            names |= {node.attr for node in walk(tree, ast.Attribute)}
            self.assertFalse(names & BARRED)
            for node in walk(tree, ast.FunctionDef):
                bound = set(bound_in(node))
                self.assertFalse(bound & taken)
                self.assertFalse(bound & set(dir(builtins)))
                self.assertNotIn(node.name, dir(builtins))
                self.assertFalse([n for n in bound if n.startswith("_") and n != "_"])
            for node in walk(tree, ast.Name):
                if isinstance(node.ctx, ast.Load) and node.id in dir(builtins):
                    self.assertIn(node.id, BUILTINS)
                self.assertFalse(node.id == "_" and isinstance(node.ctx, ast.Load))

    def test_words(self):
        for tree in TREES.values():
            told = [node.body[0].value for node in walk(tree, (ast.Module, ast.ClassDef, ast.FunctionDef))
                    if ast.get_docstring(node)]
            for node in walk(tree, ast.Constant):
                if isinstance(node.value, str) and node not in told:
                    self.assertNotIn("%", node.value)
                    self.assertFalse(set(re.findall(r"\w+", node.value)) & BARRED_WORDS)

    def test_methods_and_attributes(self):
        methods = {"__init__"}
        attributes = set()
        for tree in TREES.values():
            for node in walk(tree, ast.ClassDef):
                told = [part.name for part in node.body if isinstance(part, ast.FunctionDef)]
                self.assertEqual(len(told), len(set(told)))
                self.assertEqual(len(told) + 1, len(node.body) + (ast.get_docstring(node) is None))
                methods.update(told)
            for node in walk(tree, ast.Attribute):
                if isinstance(node.ctx, ast.Store):
                    attributes.add(node.attr)
        self.assertFalse(methods & attributes)
        self.assertFalse((methods | attributes) & {name for kind in (str, int, list, dict, set, bytes)
                                                   for name in dir(kind)} - {"__init__"})
        for tree in TREES.values():
            called = {node.func.attr for node in walk(tree, ast.Call) if isinstance(node.func, ast.Attribute)}
            self.assertLessEqual(called, methods | METHODS)
            read = {node.attr for node in walk(tree, ast.Attribute) if isinstance(node.ctx, ast.Load)}
            self.assertLessEqual(read, methods | METHODS | attributes)

    def test_identity_tests(self):
        for tree in TREES.values():
            for node in walk(tree, ast.Compare):
                for sign, right in zip(node.ops, node.comparators):
                    if isinstance(sign, (ast.Is, ast.IsNot)):
                        self.assertIsInstance(right, ast.Constant)


if __name__ == "__main__":
    unittest.main()
