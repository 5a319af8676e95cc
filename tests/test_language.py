"""LANGUAGE.md: the rules that can be seen in the text of the package."""
import ast
import builtins
import io
import os
import tokenize
import unittest

TOP = os.path.dirname(os.path.dirname(os.path.abspath(__file__)))
PACKAGE = os.path.join(TOP, "nightstairs")

# The package needs no more of the language than this; LANGUAGE.md allows some more.
NODES = {
    "Module", "FunctionDef", "ClassDef", "arguments", "arg", "Expr", "Assign", "AugAssign", "Return", "If", "For", "While",
    "Break", "Continue", "Raise", "Delete", "ImportFrom", "alias", "Name", "Attribute", "Subscript", "Slice", "Tuple", "List",
    "Dict", "Constant", "Call", "keyword", "Lambda", "IfExp", "ListComp", "DictComp", "comprehension", "JoinedStr",
    "FormattedValue", "Load", "Store", "Del", "BoolOp", "And", "Or", "UnaryOp", "Not", "USub", "BinOp", "Add", "Sub", "Mult",
    "FloorDiv", "BitXor", "BitAnd", "LShift", "Compare", "Eq", "NotEq", "Lt", "LtE", "Gt", "GtE", "Is", "IsNot", "In", "NotIn",
    "Pass", "Try", "ExceptHandler",
}
CALLED = {"len", "range", "enumerate", "zip", "min", "max", "sum", "abs", "sorted", "reversed", "int", "str", "bool", "list",
          "tuple", "dict", "set", "isinstance", "any", "all"}
NAMED = CALLED | {"ValueError"}
METHODS = {"append", "copy", "count", "extend", "get", "index", "insert", "items", "join", "keys", "partition", "pop", "remove",
           "setdefault", "split", "strip", "update", "values", "zfill"}
CLASSES = {"chargers": "Charger", "desk": "Desk", "house": "House"}
BARRED = {"register", "mro", "elements", "open", "input", "law", "type", "typing", "enum", "eval", "exec", "exit", "gc", "os",
          "sys", "vars", "dir", "id", "map", "next", "iter", "copyright", "credits", "license", "help", "format"}
ITERATED_AT_ONCE = {"zip", "enumerate", "reversed", "items", "keys", "values"}


def files():
    return sorted(name for name in os.listdir(PACKAGE) if name != "__pycache__")


def text_of(name):
    with open(os.path.join(PACKAGE, name), encoding="utf-8") as file:
        return file.read()


def trees():
    return [(name, ast.parse(text_of(name))) for name in files()]


def nodes_of(kind):
    return [(name, node) for name, tree in trees() for node in ast.walk(tree) if isinstance(node, kind)]


def bound_names(tree):
    """The names of parameters, variables, functions and classes."""
    for node in ast.walk(tree):
        if isinstance(node, ast.arg):
            yield node.arg
        elif isinstance(node, ast.Name) and isinstance(node.ctx, ast.Store):
            yield node.id
        elif isinstance(node, (ast.FunctionDef, ast.ClassDef)):
            yield node.name


class Language(unittest.TestCase):
    def test_files(self):
        for name in files():
            self.assertRegex(name, "^(__init__|[a-z]+)[.]py$")
            text = text_of(name)
            rows = text.split("\n")
            self.assertLessEqual(len(rows), 399, name)
            self.assertTrue(all(sign == "\n" or " " <= sign <= "~" for sign in text), name)
            for at, row in enumerate(rows):
                self.assertLessEqual(len(row), 120, (name, at + 1))
                self.assertEqual(row, row.rstrip(), (name, at + 1))
        self.assertEqual(text_of("__init__.py"), "")

    def test_no_more_of_the_language_than_is_needed(self):
        for name, node in nodes_of(ast.AST):
            self.assertIn(type(node).__name__, NODES, (name, getattr(node, "lineno", None)))

    def test_imports_go_up_the_list_of_modules(self):
        order = ["errors", "forms", "yards", "edits", "yardtexts", "nets", "flows", "cuts", "copypapers", "reach", "stairs",
                 "rows", "bare", "nights", "could", "nomore", "keeping", "orders", "shares", "orderpapers", "promises", "prices",
                 "unlike", "witnesses", "parts", "partrows", "partletters", "cells", "chargers", "house", "books", "bookjudge", "desk"]
        for name, tree in trees():
            body = [node for node in tree.body if not (isinstance(node, ast.Expr) and isinstance(node.value, ast.Constant))]
            heads = [isinstance(node, ast.ImportFrom) for node in body]
            self.assertEqual(heads, sorted(heads, reverse=True), name)
            for node in body:
                if isinstance(node, ast.ImportFrom):
                    package, module = node.module.split(".")
                    self.assertEqual((package, node.level), ("nightstairs", 0))
                    self.assertLess(order.index(module), order.index(name[:-3]))
                    defined = {row.name for row in ast.parse(text_of(module + ".py")).body if hasattr(row, "name")}
                    for alias in node.names:
                        self.assertIsNone(alias.asname)
                        self.assertIn(alias.name, defined)

    def test_functions_are_short_and_plain(self):
        for name, node in nodes_of((ast.FunctionDef, ast.Lambda)):
            place = (name, node.lineno)
            told = node.args
            self.assertFalse(told.vararg or told.kwarg or told.kwonlyargs or told.posonlyargs or told.defaults, place)
            if isinstance(node, ast.FunctionDef):
                self.assertLessEqual(node.end_lineno - node.lineno + 1, 40, place)
                self.assertEqual((node.decorator_list, node.returns), ([], None), place)

    def test_module_level(self):
        for name, tree in trees():
            for at, node in enumerate(tree.body):
                if isinstance(node, ast.Expr):
                    self.assertTrue(at == 0 and isinstance(node.value, ast.Constant), name)
                elif isinstance(node, ast.Assign):
                    self.assertEqual(len(node.targets), 1)
                    self.assertIsInstance(node.targets[0], ast.Name)
                    functions = {row.name for row in tree.body[:at] if isinstance(row, ast.FunctionDef)}
                    for row in ast.walk(node.value):
                        self.assertIsInstance(row, (ast.Constant, ast.Dict, ast.Name, ast.Load))
                        self.assertTrue(not isinstance(row, ast.Name) or row.id in functions, (name, node.lineno))
                else:
                    self.assertIsInstance(node, (ast.ImportFrom, ast.FunctionDef, ast.ClassDef))

    def test_names(self):
        # A doctest that ran ahead of this leaves `_` among them.
        known = set(dir(builtins)) - {"_"}
        for name, tree in trees():
            names = list(bound_names(tree))
            imported = {alias.name for node in ast.walk(tree) if isinstance(node, ast.ImportFrom) for alias in node.names}
            top = [node.name for node in tree.body if isinstance(node, (ast.FunctionDef, ast.ClassDef))]
            self.assertEqual(len(top), len(set(top)), name)
            for word in names:
                self.assertNotIn(word, known, name)
                self.assertNotIn(word, imported, name)
                self.assertNotIn(word, BARRED, name)
                self.assertTrue(word in ("__init__", "__eq__", "_") or not word.startswith("__"), (name, word))
            for node in ast.walk(tree):
                if isinstance(node, ast.FunctionDef):
                    own = {row for row in bound_names(node) if row != node.name}
                    self.assertFalse(own & set(top), (name, node.name))
                if isinstance(node, ast.Name) and isinstance(node.ctx, ast.Load):
                    self.assertTrue(node.id != "_" and (node.id in NAMED or node.id not in known), (name, node.id))

    def test_builtins_are_called_and_methods_are_of_builtin_values_or_of_own_classes(self):
        own = {node.name for name, tree in trees() for row in tree.body if isinstance(row, ast.ClassDef) for node in row.body
               if isinstance(node, ast.FunctionDef)}
        kept = {node.attr for name, node in nodes_of(ast.Attribute) if isinstance(node.ctx, ast.Store)}
        self.assertFalse(own & kept)
        for name, tree in trees():
            heads = [node.func for node in ast.walk(tree) if isinstance(node, ast.Call)]
            for node in ast.walk(tree):
                if isinstance(node, ast.Name) and node.id in CALLED and not any(node is head for head in heads):
                    self.assertIn(node.id, ("int", "str", "bool", "tuple", "list", "dict"), (name, node.lineno))
                if isinstance(node, ast.Attribute):
                    if any(node is head for head in heads):
                        self.assertIn(node.attr, METHODS | own, (name, node.lineno))
                    else:
                        # Attributes are those that some object is given, read and assigned off a name.
                        self.assertIn(node.attr, kept, (name, node.lineno))
                        self.assertIsInstance(node.value, ast.Name, (name, node.lineno))

    def test_classes(self):
        for name, tree in trees():
            classes = [node for node in tree.body if isinstance(node, ast.ClassDef)]
            if name != "errors.py":
                self.assertEqual([node.name for node in classes], [CLASSES[name[:-3]]] if name[:-3] in CLASSES else [])
            for node in classes:
                self.assertEqual((node.decorator_list, node.keywords), ([], []))
                self.assertEqual(len(node.bases), 1 if name == "errors.py" else 0)
                words = [row.name for row in node.body if isinstance(row, ast.FunctionDef)]
                self.assertEqual(len(words), len(set(words)))
                for row in node.body:
                    self.assertIsInstance(row, (ast.FunctionDef, ast.Expr))

    def test_handlers_are_of_own_errors(self):
        own = {node.name for name, node in nodes_of(ast.ClassDef) if name == "errors.py"}
        for name, node in nodes_of(ast.Try):
            self.assertFalse(node.finalbody)
            for handler in node.handlers:
                words = [row.id for row in ast.walk(handler.type) if isinstance(row, ast.Name)]
                self.assertTrue(words and set(words) <= own, (name, node.lineno))

    def test_keywords(self):
        for name, node in nodes_of(ast.Call):
            if node.keywords:
                self.assertIn(getattr(node.func, "id", None), ("sorted", "min", "max"), (name, node.lineno))

    def test_zips_and_views_are_iterated_at_once(self):
        for name, tree in trees():
            fine, counted = [], []
            for node in ast.walk(tree):
                if isinstance(node, (ast.For, ast.comprehension)):
                    fine.append(node.iter)
                if isinstance(node, ast.Call) and getattr(node.func, "id", "") in ("list", "tuple", "dict", "sorted", "sum"):
                    fine.extend(node.args)
                if isinstance(node, ast.Call) and getattr(node.func, "id", "") == "len":
                    counted.extend(node.args)
            for node in ast.walk(tree):
                if isinstance(node, ast.Call):
                    word = getattr(node.func, "id", getattr(node.func, "attr", ""))
                    if word in ITERATED_AT_ONCE:
                        self.assertTrue(any(node is other for other in fine), (name, node.lineno))
                    if word == "set":
                        self.assertTrue(any(node is other for other in fine + counted), (name, node.lineno))

    def test_is_is_for_none(self):
        for name, node in nodes_of(ast.Compare):
            for op, other in zip(node.ops, node.comparators):
                if isinstance(op, (ast.Is, ast.IsNot)):
                    self.assertIsNone(other.value, (name, node.lineno))

    def test_what_a_loop_goes_over_stays(self):
        for name, node in nodes_of(ast.For):
            over = {row.id for row in ast.walk(node.iter) if isinstance(row, ast.Name)}
            for row in ast.walk(ast.Module(node.body, [])):
                if isinstance(row, ast.Call) and isinstance(row.func, ast.Attribute):
                    if row.func.attr in ("append", "extend", "pop", "insert", "remove", "setdefault"):
                        self.assertNotIn(getattr(row.func.value, "id", None), over, (name, row.lineno))
                if isinstance(row, ast.Subscript) and not isinstance(row.ctx, ast.Load):
                    self.assertNotIn(getattr(row.value, "id", None), over, (name, row.lineno))

    def test_strings_and_numbers(self):
        for name in files():
            for token in tokenize.generate_tokens(io.StringIO(text_of(name)).readline):
                if token.type == tokenize.STRING and not token.string.startswith('"""'):
                    self.assertNotIn("%", token.string, (name, token.start))
                    body = token.string.replace("\\n", "").replace("\\t", "")
                    self.assertNotIn("\\", body, (name, token.start))
                if token.type == tokenize.NUMBER:
                    self.assertTrue(token.string.isdigit(), (name, token.start))
        for name, node in nodes_of(ast.Constant):
            self.assertNotIsInstance(node.value, (float, complex, bytes), name)

    def test_errors(self):
        for name, node in nodes_of(ast.Raise):
            self.assertIsInstance(node.exc, ast.Call, (name, node.lineno))
            self.assertIsNone(node.cause, (name, node.lineno))
            self.assertFalse(node.exc.keywords, (name, node.lineno))


if __name__ == "__main__":
    unittest.main()
