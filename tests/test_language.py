"""Those rules of the Python subset that are easily counted: sizes, characters, imports, names and some calls."""

import ast
import builtins
import os
import unittest

FOLDER = os.path.join(os.path.dirname(os.path.dirname(os.path.abspath(__file__))), "heldranks")
BUILTINS = set(
    "len range enumerate zip min max sum abs sorted reversed int str bool list tuple dict set isinstance ord repr any"
    " all divmod ValueError KeyError LookupError RuntimeError NotImplementedError property classmethod staticmethod"
    " super".split())
BARRED = set(
    "register mro elements open input law version_info with_traceback add_note compile copyright dir eval exec exit gc"
    " globals help id importlib license locals os quit vars sys type typing enum _record _outside _cold".split())
BARRED_ATTRIBUTES = set("items keys values pop update append clear extend insert remove reverse setdefault sort args"
                        " encode decode hex fromhex format".split())
SPECIAL = set(
    "__init__ __eq__ __repr__ __str__ __len__ __and__ __or__ __iter__ __contains__".split())
METHODS = set(
    "append clear copy count endswith extend find get index insert isdigit items join keys lower partition pop"
    " remove replace reverse setdefault split startswith strip update upper values bit_length add discard lstrip rstrip"
    " removeprefix".split())
LIBRARY = {"math": ["gcd", "comb"]}


def files():
    return sorted(name for name in os.listdir(FOLDER) if name != "__pycache__")


def texts():
    for name in files():
        with open(os.path.join(FOLDER, name), encoding="utf-8") as source:
            yield name, source.read()


def trees():
    for name, text in texts():
        yield name, ast.parse(text)


def nodes(kind):
    for name, tree in trees():
        for node in ast.walk(tree):
            if isinstance(node, kind):
                yield name, node


def bound_names(tree):
    """Return all names that are given to parameters, variables, functions and classes."""
    found = []
    for node in ast.walk(tree):
        if isinstance(node, ast.arg):
            found.append(node.arg)
        elif isinstance(node, (ast.FunctionDef, ast.ClassDef)):
            found.append(node.name)
        elif isinstance(node, ast.Name) and isinstance(node.ctx, ast.Store):
            found.append(node.id)
    return found


def own_methods():
    return {node.name for _, kind in nodes(ast.ClassDef) for node in kind.body if isinstance(node, ast.FunctionDef)}


def decorated(node, word):
    return any(isinstance(mark, ast.Name) and mark.id == word for mark in node.decorator_list)


class Sizes(unittest.TestCase):

    def test_files(self):
        for name, text in texts():
            self.assertTrue(name.endswith(".py") and name == name.lower(), name)
            self.assertLessEqual(len(text.splitlines()), 399, name)
            self.assertLessEqual(max([len(line) for line in text.splitlines()]), 120, name)

    def test_characters(self):
        for name, text in texts():
            self.assertEqual([sign for sign in text if sign != "\n" and not " " <= sign <= "~"], [], name)
        for name, node in nodes(ast.Constant):
            self.assertFalse(isinstance(node.value, str) and "%" in node.value, name)

    def test_functions(self):
        for name, node in nodes(ast.FunctionDef):
            self.assertLessEqual(node.end_lineno - node.lineno + 1, 40, (name, node.name))


class Imports(unittest.TestCase):

    def test_names_come_from_the_file_that_defines_them(self):
        defined = {}
        for name, tree in trees():
            plain = [target.id for node in tree.body if isinstance(node, ast.Assign) for target in node.targets]
            defined["heldranks." + name[:-3]] = plain + [
                node.name for node in tree.body if isinstance(node, (ast.FunctionDef, ast.ClassDef))]
        for name, node in nodes((ast.Import, ast.ImportFrom)):
            self.assertIsInstance(node, ast.ImportFrom, name)
            known = LIBRARY.get(node.module) or defined[node.module]
            for alias in node.names:
                self.assertIn(alias.name, known, name)
                self.assertIsNone(alias.asname, name)

    def test_no_file_comes_back_to_itself(self):
        found = {name[:-3]: set() for name in files()}
        for name, node in nodes(ast.ImportFrom):
            if node.module not in LIBRARY:
                found[name[:-3]].add(node.module.split(".")[1])
        while found:
            free = [name for name in found if not found[name] & set(found)]
            self.assertTrue(free, found)
            for name in free:
                del found[name]

    def test_each_import_is_used_and_bound_once(self):
        for name, tree in trees():
            imported = [alias.name for node in tree.body if isinstance(node, ast.ImportFrom) for alias in node.names]
            used = {node.id for node in ast.walk(tree) if isinstance(node, ast.Name)}
            self.assertEqual(sorted(set(imported)), sorted(imported), name)
            self.assertEqual(sorted(set(imported) - used), [], name)
            self.assertEqual(sorted(set(imported) & set(bound_names(tree))), [], name)


class Names(unittest.TestCase):

    def test_bound_names(self):
        for name, tree in trees():
            for word in bound_names(tree):
                # Examples that were run before leave a value behind under the name `_`.
                if word in SPECIAL or word == "_":
                    continue
                self.assertFalse(word in BARRED or word.startswith("__"), (name, word))
                self.assertFalse(hasattr(builtins, word), (name, word))

    def test_attributes(self):
        for name, node in nodes(ast.Attribute):
            if isinstance(node.ctx, ast.Store):
                self.assertNotIn(node.attr, BARRED_ATTRIBUTES, name)
                self.assertNotIn(node.attr, own_methods(), name)

    def test_properties_and_methods_have_other_names(self):
        properties, others = set(), set()
        for _, kind in nodes(ast.ClassDef):
            for node in kind.body:
                if isinstance(node, ast.FunctionDef):
                    (properties if decorated(node, "property") else others).add(node.name)
        self.assertEqual(sorted(properties & others), [])

    def test_builtins_and_methods_that_are_called(self):
        known = METHODS | own_methods()
        for name, tree in trees():
            own = set(bound_names(tree))
            imported = {alias.name for node in tree.body if isinstance(node, ast.ImportFrom) for alias in node.names}
            for node in ast.walk(tree):
                if isinstance(node, ast.Name) and node.id not in own | imported:
                    self.assertIn(node.id, BUILTINS, name)
                if isinstance(node, ast.Call) and isinstance(node.func, ast.Attribute):
                    self.assertIn(node.func.attr, known, name)


class Statements(unittest.TestCase):

    def test_what_is_not_allowed_at_all(self):
        kinds = (ast.AsyncFunctionDef, ast.Await, ast.Global, ast.Nonlocal, ast.GeneratorExp, ast.Div, ast.With,
                 ast.Match, ast.NamedExpr, ast.Delete)
        for name, node in nodes(kinds):
            self.assertIsInstance(node, ast.Delete, (name, node.lineno))
        for name, node in nodes(ast.Constant):
            self.assertNotIsInstance(node.value, (float, complex), (name, node.lineno))

    def test_own_errors_alone_are_caught(self):
        for name, node in nodes(ast.ExceptHandler):
            words = [part.id for part in ast.walk(node.type) if isinstance(part, ast.Name)]
            self.assertLessEqual(set(words), {"HeldError", "MissingError"}, name)

    def test_no_state_at_module_level(self):
        for name, tree in trees():
            for node in tree.body:
                self.assertIsInstance(
                    node, (ast.Expr, ast.ImportFrom, ast.FunctionDef, ast.ClassDef, ast.Assign), name)
                if isinstance(node, ast.Expr):
                    self.assertIsInstance(node.value, ast.Constant, name)

    def test_is_stands_beside_none_or_self(self):
        for name, node in nodes(ast.Compare):
            for operator, right in zip(node.ops, node.comparators):
                if isinstance(operator, (ast.Is, ast.IsNot)):
                    both = [side for side in (node.left, right) if isinstance(side, (ast.Constant, ast.Name))
                            and getattr(side, "value", None) is None and getattr(side, "id", "self") == "self"]
                    self.assertTrue(both, (name, node.lineno))

    def test_sets(self):
        # A set is sorted or counted on the spot, without keywords, or kept by a plain variable.
        for name, tree in trees():
            right = set()
            for node in ast.walk(tree):
                if isinstance(node, ast.Call) and isinstance(node.func, ast.Name) and not node.keywords:
                    if node.func.id in ("sorted", "len"):
                        right.update(id(part) for part in node.args)
                if isinstance(node, ast.Assign) and isinstance(node.targets[0], ast.Name):
                    right.add(id(node.value))
            for node in ast.walk(tree):
                called = isinstance(node, ast.Call) and isinstance(node.func, ast.Name) and node.func.id == "set"
                if called or isinstance(node, (ast.Set, ast.SetComp)):
                    self.assertIn(id(node), right, (name, node.lineno))


if __name__ == "__main__":
    unittest.main()
