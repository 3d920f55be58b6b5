"""The rules of the language that can be seen by going through each file's tree."""

import ast
import unittest
from pathlib import Path

import clausehold

PACKAGE = Path(clausehold.__file__).parent
LIBRARY = {"heapq", "math", "itertools", "collections"}
# Narrower than the rules, which allow some of these in some places: the package does without them so far.
FORBIDDEN = (ast.Global, ast.AsyncFunctionDef, ast.Try, ast.Import, ast.GeneratorExp, ast.Lambda, ast.Yield,
             ast.YieldFrom, ast.With, ast.Nonlocal, ast.Starred, ast.SetComp, ast.Set)
BUILTINS = set(dir(__builtins__) if not isinstance(__builtins__, dict) else __builtins__)
ALLOWED = {
    "len", "range", "enumerate", "zip", "min", "max", "sum", "abs", "sorted", "reversed", "int", "str", "bool", "list",
    "tuple", "dict", "set", "isinstance", "ord", "repr", "any", "all", "divmod", "ValueError", "TypeError", "KeyError",
}
NEVER = {"register", "mro", "elements", "open", "input", "law", "version_info", "type", "vars", "id", "dir"}


def files():
    return sorted(PACKAGE.rglob("*.py"))


def trees():
    for path in files():
        yield path.name, ast.parse(path.read_text(encoding="utf-8"))


def bound(node):
    """The names that a node gives a meaning."""
    if isinstance(node, (ast.FunctionDef, ast.ClassDef)):
        return [node.name]
    if isinstance(node, ast.arg):
        return [node.arg]
    if isinstance(node, ast.Name) and isinstance(node.ctx, ast.Store):
        return [node.id]
    if isinstance(node, ast.alias):
        return [node.asname or node.name]
    return []


class TestLanguage(unittest.TestCase):
    def test_the_folder_holds_files_of_code_alone(self):
        for path in PACKAGE.rglob("*"):
            if "__pycache__" not in path.parts:
                self.assertEqual(path.suffix, ".py")
                self.assertEqual(path.name, path.name.lower())
        self.assertLessEqual(len(files()), 100)

    def test_sizes_and_characters(self):
        for path in files():
            text = path.read_text(encoding="utf-8")
            lines = text.split("\n")
            self.assertLessEqual(len(lines), 399, path)
            for number, line in enumerate(lines, 1):
                self.assertLessEqual(len(line), 120, (path, number))
                self.assertTrue(all(" " <= sign <= "~" for sign in line), (path, number))
        for name, tree in trees():
            for node in ast.walk(tree):
                if isinstance(node, ast.FunctionDef):
                    self.assertLessEqual(node.end_lineno - node.lineno + 1, 40, (name, node.name))
                    self.assertFalse(node.decorator_list, (name, node.name))

    def test_imports_name_the_file_that_defines(self):
        after = {}
        for name, tree in trees():
            after[name] = set()
            for node in ast.walk(tree):
                if isinstance(node, ast.ImportFrom):
                    self.assertIn(node, tree.body)
                    self.assertEqual(node.level, 0)
                    if node.module in LIBRARY:
                        continue
                    package, file = node.module.split(".")
                    self.assertEqual(package, "clausehold")
                    defined = ast.parse((PACKAGE / (file + ".py")).read_text(encoding="utf-8")).body
                    there = [x for part in defined for x in bound(part)]
                    there += [x.id for part in defined if isinstance(part, ast.Assign) for x in part.targets]
                    for alias in node.names:
                        self.assertIsNone(alias.asname)
                        self.assertIn(alias.name, there, (name, alias.name))
                    after[name].add(file + ".py")
        while after:
            ready = [name for name in after if not after[name] & set(after)]
            self.assertTrue(ready, f"these import from each other: {sorted(after)}")
            for name in ready:
                del after[name]

    def test_imports_are_used(self):
        for name, tree in trees():
            read = {node.id for node in ast.walk(tree) if isinstance(node, ast.Name)}
            for node in tree.body:
                if isinstance(node, ast.ImportFrom):
                    for alias in node.names:
                        self.assertIn(alias.name, read, name)

    def test_statements_and_expressions(self):
        for name, tree in trees():
            for node in ast.walk(tree):
                where = (name, getattr(node, "lineno", 0), node.__class__.__name__)
                if isinstance(node, ast.JoinedStr):
                    for part in node.values:
                        inner = ast.walk(part.value) if isinstance(part, ast.FormattedValue) else ()
                        self.assertFalse([x for x in inner if isinstance(x, ast.Constant)], where)
                self.assertNotIsInstance(node, FORBIDDEN, where)
                if isinstance(node, ast.BinOp):
                    self.assertNotIsInstance(node.op, (ast.Div, ast.Pow, ast.MatMult), where)
                if isinstance(node, ast.Constant):
                    self.assertNotIsInstance(node.value, (float, complex, bytes), where)
                    if isinstance(node.value, str):
                        self.assertNotIn("%", node.value, where)
                if isinstance(node, ast.Compare):
                    for sign, other in zip(node.ops, node.comparators):
                        if isinstance(sign, (ast.Is, ast.IsNot)):
                            self.assertIn(getattr(other, "value", 0), (None, True, False), where)
                if isinstance(node, ast.Raise):
                    self.assertIsInstance(node.exc, ast.Call, where)

    def test_names(self):
        for name, tree in trees():
            for node in ast.walk(tree):
                where = (name, getattr(node, "lineno", 0))
                for word in bound(node):
                    self.assertNotIn(word, NEVER, where)
                    if isinstance(node, ast.alias) or word.startswith("__"):
                        continue
                    self.assertNotIn(word, BUILTINS, where)
                    self.assertTrue(word.isascii(), where)
                if isinstance(node, ast.Attribute):
                    self.assertNotIn(node.attr, NEVER, where)
                if isinstance(node, ast.Name) and isinstance(node.ctx, ast.Load) and node.id in BUILTINS:
                    self.assertIn(node.id, ALLOWED, where)

    def test_no_local_name_is_that_of_an_import_or_of_something_of_its_file(self):
        for name, tree in trees():
            there = {word for node in tree.body if not isinstance(node, ast.ImportFrom) for word in bound(node)}
            there |= {alias.name for node in tree.body if isinstance(node, ast.ImportFrom) for alias in node.names}
            for node in ast.walk(tree):
                if isinstance(node, ast.FunctionDef):
                    local = {word for part in ast.walk(node) if part is not node for word in bound(part)}
                    self.assertEqual(local & there, set(), (name, node.name))

    def test_loops_do_not_change_what_they_go_over(self):
        changing = {"append", "extend", "insert", "pop", "remove", "clear", "update", "setdefault", "reverse", "sort"}
        for name, tree in trees():
            for loop in ast.walk(tree):
                if not isinstance(loop, ast.For):
                    continue
                gone_over = ast.unparse(loop.iter)
                for node in ast.walk(ast.Module(loop.body, [])):
                    call = isinstance(node, ast.Call) and isinstance(node.func, ast.Attribute)
                    if call and node.func.attr in changing:
                        self.assertNotEqual(ast.unparse(node.func.value), gone_over, (name, loop.lineno))

    def test_module_level_holds_plain_things(self):
        for name, tree in trees():
            for node in tree.body:
                kinds = (ast.ImportFrom, ast.FunctionDef, ast.ClassDef, ast.Assign, ast.Expr)
                self.assertIsInstance(node, kinds, (name, node.lineno))
                if isinstance(node, ast.Expr):
                    self.assertIsInstance(node.value, ast.Constant, (name, node.lineno))


if __name__ == "__main__":
    unittest.main()
