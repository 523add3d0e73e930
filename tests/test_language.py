"""The rules of the language that a look at the source can see."""

import ast
import builtins
import os
import unittest

FOLDER = os.path.join(os.path.dirname(os.path.dirname(os.path.abspath(__file__))), "everyversion")

# The modules in the order in which each may use those above it.
ORDER = ["errors", "grammar", "forms", "ways", "words", "changes", "terms", "reader", "shower", "worths", "databases",
         "queries", "running", "explaining", "bothways", "hindrances", "refusals", "leading", "sides",
         "fitting", "trees", "copies", "store", "storedeeds", "sameness", "pieces", "moving", "cells", "logs", "mending",
         "deeds", "meanings", "sidebyside", "histories", "commands", "desk"]

BUILTINS = """len range enumerate zip min max sum abs sorted reversed int str bool list tuple dict set isinstance any all
    ValueError""".split()
METHODS = """append count endswith extend get index items join pop removeprefix partition replace split startswith values
    strip""".split()
STATEMENTS = (ast.Assign, ast.AugAssign, ast.If, ast.While, ast.For, ast.Return, ast.Raise, ast.Expr, ast.Pass,
              ast.FunctionDef, ast.ClassDef, ast.ImportFrom, ast.Try)
# What stands in a value at module level.
PLAIN = (ast.Constant, ast.Tuple, ast.Dict, ast.Name, ast.Load, ast.BinOp, ast.Mult, ast.Pow)
BARRED = """register mro elements open input law version_info with_traceback add_note""".split()
BARRED_WORDS = """type typing enum Enum Generic Protocol ABC namedtuple dataclass overload contextmanager""".split()


def modules():
    """Return the list of tuples (name, text, tree) of the modules."""
    found = []
    for name in sorted(os.listdir(FOLDER)):
        if name != "__pycache__":
            with open(os.path.join(FOLDER, name), encoding="utf-8") as file:
                text = file.read()
            found.append((name, text, ast.parse(text)))
    return found


def assigned(tree):
    """Return the names that are parameters, or assigned anywhere."""
    found = [node.arg for node in ast.walk(tree) if isinstance(node, ast.arg)]
    return found + [node.id for node in ast.walk(tree) if isinstance(node, ast.Name) and isinstance(node.ctx, ast.Store)]


class Language(unittest.TestCase):

    def nodes(self, *kinds):
        return [(name, node) for name, _, tree in modules() for node in ast.walk(tree) if isinstance(node, kinds)]

    def test_files_and_sizes(self):
        for name, text, tree in modules():
            self.assertRegex(name, r"^[a-z_]+\.py$")
            self.assertIn(name[:-3], ORDER + ["__init__"])
            self.assertTrue(all(sign == "\n" or " " <= sign <= "~" for sign in text), name)
            lines = text.split("\n")
            self.assertLess(len(lines), 400, name)
            self.assertLessEqual(max(len(line) for line in lines), 120, name)
            for node in ast.walk(tree):
                if isinstance(node, ast.FunctionDef):
                    self.assertLessEqual(node.end_lineno - node.lineno + 1, 40, (name, node.name))

    def test_imports(self):
        defined = {name[:-3]: [getattr(node, "name", None) or node.targets[0].id for node in tree.body
                               if isinstance(node, (ast.FunctionDef, ast.ClassDef, ast.Assign))] for name, _, tree in modules()}
        for name, node in self.nodes(ast.Import, ast.ImportFrom):
            self.assertIsInstance(node, ast.ImportFrom, name)
            package, module = node.module.split(".")
            self.assertEqual((package, node.level), ("everyversion", 0))
            self.assertLess(ORDER.index(module), ORDER.index(name[:-3]))
            for alias in node.names:
                self.assertIsNone(alias.asname)
                self.assertIn(alias.name, defined[module])

    def test_module_level(self):
        for name, _, tree in modules():
            for node in tree.body:
                docstring = isinstance(node, ast.Expr) and node is tree.body[0]
                plain = isinstance(node, (ast.ImportFrom, ast.FunctionDef, ast.ClassDef, ast.Assign))
                self.assertTrue(docstring or plain, (name, node.lineno))
                if isinstance(node, ast.Assign):
                    self.assertEqual([type(target) for target in node.targets], [ast.Name])
                    for part in ast.walk(node.value):
                        self.assertIsInstance(part, PLAIN, (name, node.lineno))
                    for part in list(ast.walk(node.value))[1:]:
                        self.assertNotIsInstance(part, ast.Dict)

    def test_statements_and_expressions(self):
        for name, node in self.nodes(ast.stmt):
            self.assertIsInstance(node, STATEMENTS, (name, node.lineno))
            if isinstance(node, (ast.FunctionDef, ast.ClassDef)):
                self.assertEqual(node.decorator_list, [])
        for name, node in self.nodes(ast.GeneratorExp, ast.Await, ast.Yield, ast.YieldFrom, ast.NamedExpr, ast.Div):
            self.fail((name, getattr(node, "lineno", node)))
        for name, node in self.nodes(ast.Lambda):
            self.assertIsInstance(node.body, (ast.Subscript, ast.Name))
        for name, node in self.nodes(ast.Compare):
            for sign, other in zip(node.ops, node.comparators):
                if isinstance(sign, (ast.Is, ast.IsNot)):
                    self.assertIn(getattr(other, "value", "no"), (None, True, False), (name, node.lineno))

    def test_constants(self):
        for name, node in self.nodes(ast.Constant):
            self.assertIsInstance(node.value, (int, str, type(None)), (name, node.lineno))
            if isinstance(node.value, str):
                self.assertNotIn("%", node.value)
                self.assertNotIn("__", node.value)
                self.assertFalse(set(node.value.split()) & set(BARRED_WORDS) and "\n" not in node.value, (name, node.lineno))

    def test_calls(self):
        methods = [node.name for _, node in self.nodes(ast.FunctionDef)]
        for name, node in self.nodes(ast.Call):
            if isinstance(node.func, ast.Attribute):
                self.assertIn(node.func.attr, METHODS + methods, (name, node.lineno))
            for word in node.keywords:
                self.assertIn(word.arg, ("key",), (name, node.lineno))

    def test_names(self):
        for name, _, tree in modules():
            top = [node.name for node in tree.body if isinstance(node, (ast.FunctionDef, ast.ClassDef))]
            classes = [node.name for node in tree.body if isinstance(node, ast.ClassDef)]
            imported = [alias.name for node in tree.body if isinstance(node, ast.ImportFrom) for alias in node.names]
            constants = [node.targets[0].id for node in tree.body if isinstance(node, ast.Assign)]
            self.assertEqual(len(set(top + imported + constants)), len(top + imported + constants), name)
            for word in assigned(tree):
                # doctest gives builtins an "_".
                self.assertTrue(word == "_" or word not in dir(builtins) + BARRED + classes + imported, (name, word))
            for word in top:
                self.assertNotIn(word, dir(builtins) + BARRED, name)
            caught = [node.name for node in ast.walk(tree) if isinstance(node, ast.ExceptHandler)]
            local = assigned(tree) + top + imported + caught
            for node in ast.walk(tree):
                if isinstance(node, ast.Name) and isinstance(node.ctx, ast.Load) and node.id not in local:
                    self.assertIn(node.id, BUILTINS, (name, node.lineno))
                if isinstance(node, (ast.Name, ast.Attribute)):
                    word = node.id if isinstance(node, ast.Name) else node.attr
                    self.assertFalse(word.startswith("__"), (name, node.lineno))
            for word in imported:
                self.assertIn(word, [node.id for node in ast.walk(tree) if isinstance(node, ast.Name)], (name, "not used"))

    def test_handlers_name_own_errors(self):
        errors = [node.name for name, _, tree in modules() if name == "errors.py" for node in tree.body if isinstance(node, ast.ClassDef)]
        for name, node in self.nodes(ast.Try):
            self.assertEqual((node.orelse, node.finalbody), ([], []), (name, node.lineno))
            for handler in node.handlers:
                self.assertIn(handler.type.id, errors, (name, node.lineno))
            # Each handler has a name of its own.
            named = [handler.name for handler in node.handlers if handler.name is not None]
            self.assertEqual(len(set(named)), len(named))

    def test_sets_stand_in_sorted(self):
        for name, _, tree in modules():
            inside = [part for node in ast.walk(tree) if isinstance(node, ast.Call) and getattr(node.func, "id", "") == "sorted"
                      for part in ast.walk(node)]
            for node in ast.walk(tree):
                is_set = isinstance(node, (ast.Set, ast.SetComp))
                if is_set or (isinstance(node, ast.Call) and getattr(node.func, "id", "") == "set"):
                    self.assertIn(node, inside, (name, node.lineno))

    def test_loops_do_not_change_what_they_go_over(self):
        for name, node in self.nodes(ast.For):
            gone_over = {part.id for part in ast.walk(node.iter) if isinstance(part, ast.Name)}
            for part in [part for statement in node.body for part in ast.walk(statement)]:
                if isinstance(part, ast.Call) and isinstance(part.func, ast.Attribute):
                    self.assertNotIn(getattr(part.func.value, "id", None), gone_over, (name, part.lineno))


if __name__ == "__main__":
    unittest.main()
