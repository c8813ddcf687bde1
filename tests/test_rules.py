"""Some of the rules on how the files of the package are written, as far as their code shows them."""

import ast
import builtins
import pathlib
import unittest

PACKAGE = pathlib.Path(__file__).resolve().parent.parent / "runswap"
BUILTINS = {"len", "range", "enumerate", "zip", "min", "max", "sum", "abs", "sorted", "reversed", "int", "str", "bool",
            "list", "tuple", "dict", "set", "isinstance", "ord", "repr", "any", "all", "divmod", "map", "type",
            "property", "classmethod", "staticmethod", "super", "ValueError", "KeyError", "IndexError"}
DOUBLE = {"__init__", "__eq__", "__len__"}
METHODS = {"append", "clear", "copy", "count", "endswith", "extend", "find", "get", "index", "insert", "isalnum",
           "isalpha", "isdigit", "islower", "isspace", "isupper", "items", "join", "keys", "ljust", "lower", "lstrip",
           "partition", "pop", "remove", "replace", "reverse", "rfind", "rjust", "rpartition", "rsplit", "rstrip",
           "setdefault", "split", "splitlines", "startswith", "strip", "update", "upper", "values", "zfill",
           "bit_length", "isascii", "isdecimal", "sort"}
STATEMENTS = (ast.Import, ast.ImportFrom, ast.FunctionDef, ast.ClassDef, ast.Assign, ast.Expr)
NEVER = (ast.Global, ast.Nonlocal, ast.AsyncFunctionDef, ast.Await, ast.Lambda, ast.Try, ast.Set, ast.SetComp,
         ast.GeneratorExp, ast.Div, ast.Match, ast.NamedExpr, ast.Delete, ast.With, ast.Assert)
GREATEST_VALUE = 50000
GREATEST_VALUES = 500000


def size_of(node):
    """How many characters, bits and items a value has."""
    found = 0
    for part in ast.walk(node):
        if isinstance(part, ast.Constant):
            found += part.value.bit_length() + 1 if isinstance(part.value, int) else len(part.value)
        elif isinstance(part, (ast.Tuple, ast.List, ast.Dict)):
            found += len(list(ast.iter_child_nodes(part)))
    return found


class RulesTest(unittest.TestCase):
    def setUp(self):
        self.trees = {path.name: ast.parse(path.read_text(encoding="utf-8")) for path in sorted(PACKAGE.glob("*.py"))}

    def nodes(self, *kinds):
        for name, tree in self.trees.items():
            for node in ast.walk(tree):
                if isinstance(node, kinds):
                    yield f"{name}:{getattr(node, 'lineno', 0)}", node

    def test_statements_at_module_level(self):
        for name, tree in self.trees.items():
            for place, node in enumerate(tree.body):
                with self.subTest(place=f"{name}:{node.lineno}"):
                    self.assertIsInstance(node, STATEMENTS)
                    if isinstance(node, ast.Expr):
                        self.assertEqual([place, type(node.value.value)], [0, str])
                    if isinstance(node, ast.Assign):
                        self.assertEqual([type(target) for target in node.targets], [ast.Name])
                        inside = [type(part) for part in ast.walk(node.value)]
                        self.assertFalse({ast.Call, ast.ListComp, ast.DictComp, ast.Subscript} & set(inside))

    def test_each_name_is_bound_once(self):
        for name, tree in self.trees.items():
            bound = []
            for node in tree.body:
                if isinstance(node, ast.ImportFrom):
                    bound.extend(alias.asname or alias.name for alias in node.names)
                elif isinstance(node, ast.Assign):
                    bound.append(node.targets[0].id)
                elif not isinstance(node, ast.Expr):
                    bound.append(node.name)
            self.assertEqual(sorted(bound), sorted(set(bound)))
            # Nothing within a function has the name of an import or of a class.
            fixed = {alias.name for node in tree.body if isinstance(node, ast.ImportFrom) for alias in node.names}
            fixed |= {node.name for node in tree.body if isinstance(node, ast.ClassDef)}
            for node in ast.walk(tree):
                if isinstance(node, ast.Name) and isinstance(node.ctx, ast.Store):
                    self.assertNotIn(node.id, fixed, name)
                if isinstance(node, ast.arg):
                    self.assertNotIn(node.arg, fixed, name)

    def test_values_at_module_level_are_not_too_great(self):
        sizes = [size_of(node.value) for tree in self.trees.values() for node in tree.body
                 if isinstance(node, ast.Assign)]
        self.assertLessEqual(max(sizes), GREATEST_VALUE)
        self.assertLessEqual(sum(sizes), GREATEST_VALUES)

    def test_what_is_not_used(self):
        self.assertEqual([place for place, _ in self.nodes(*NEVER)], [])

    def test_builtins(self):
        for place, node in self.nodes(ast.Name):
            # A doctest leaves a `_` among the builtins.
            if node.id in vars(builtins) and node.id != "_":
                with self.subTest(place=place):
                    self.assertIn(node.id, BUILTINS)
                    self.assertIsInstance(node.ctx, ast.Load)
        for place, node in self.nodes(ast.arg, ast.FunctionDef, ast.ClassDef):
            with self.subTest(place=place):
                self.assertNotIn(getattr(node, "arg", getattr(node, "name", "")), vars(builtins))

    def test_names(self):
        for place, node in self.nodes(ast.FunctionDef):
            if node.name.startswith("__"):
                self.assertIn(node.name, DOUBLE, place)
        for place, node in self.nodes(ast.Attribute):
            self.assertFalse(node.attr.startswith("__"), place)

    def test_methods(self):
        own = {node.name for _, node in self.nodes(ast.FunctionDef)}
        for place, node in self.nodes(ast.Call):
            if isinstance(node.func, ast.Attribute):
                self.assertIn(node.func.attr, METHODS | own, place)

    def test_properties_have_names_of_their_own(self):
        plain = []
        properties = []
        for _, node in self.nodes(ast.ClassDef):
            for part in node.body:
                if isinstance(part, ast.FunctionDef):
                    words = [word.id for word in part.decorator_list]
                    (properties if words == ["property"] else plain).append(part.name)
        stored = {node.attr for _, node in self.nodes(ast.Attribute) if isinstance(node.ctx, ast.Store)}
        self.assertEqual(sorted(properties), ["row", "runs", "stands"])
        self.assertEqual(set(properties) & (set(plain) | stored | METHODS), set())

    def test_texts(self):
        for place, node in self.nodes(ast.Constant):
            if isinstance(node.value, str):
                self.assertNotIn("%", node.value, place)
            elif isinstance(node.value, int):
                self.assertLess(node.value, 10 ** 900, place)

    def test_no_file_imports_itself_through_others(self):
        needs = {name[:-3]: [node.module.split(".")[-1] for node in ast.walk(tree)
                             if isinstance(node, ast.ImportFrom) and node.module.startswith("runswap.")]
                 for name, tree in self.trees.items()}
        done = set()
        while len(done) < len(needs):
            ready = {name for name in needs if name not in done and set(needs[name]) <= done}
            self.assertNotEqual(ready, set())
            done |= ready

    def test_imported_names_are_defined_where_they_come_from(self):
        for place, node in self.nodes(ast.ImportFrom):
            if node.module.startswith("runswap."):
                tree = self.trees[node.module.split(".")[1] + ".py"]
                defined = {getattr(part, "name", "") for part in tree.body}
                defined |= {part.targets[0].id for part in tree.body if isinstance(part, ast.Assign)}
                self.assertLessEqual({alias.name for alias in node.names}, defined, place)


if __name__ == "__main__":
    unittest.main()
