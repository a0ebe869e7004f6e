"""What operators, __eq__, __len__ and properties run: it changes nothing, and reaches no function that yields."""

import ast
import unittest

from tests.test_language import functions_of, trees

# These make or change their own object.
FREE = ("__init__", "__setitem__", "__iter__")
MODIFYING = {"append", "clear", "extend", "insert", "pop", "remove", "reverse", "setdefault", "update", "add",
             "discard", "sort"}
MAKING = {"list", "dict", "sorted"}


def is_property(node):
    return any(getattr(one, "id", None) == "property" for one in node.decorator_list)


def is_root(node):
    return is_property(node) or node.name.startswith("__") and node.name not in FREE


def collected():
    """All functions by their names, a class by its __init__, and those that the rule begins with."""
    known, roots = {}, []
    for path, _, tree in trees():
        for node in functions_of(tree):
            known.setdefault(node.name, []).append(node)
            if is_root(node):
                roots.append(node)
        for node in ast.walk(tree):
            if isinstance(node, ast.ClassDef):
                known.setdefault(node.name, []).extend(one for one in node.body if isinstance(one, ast.FunctionDef)
                                                       and one.name == "__init__")
    return known, roots


def called_in(node):
    """The names of all that a function calls, whoever has a function of this name."""
    for part in ast.walk(node):
        if isinstance(part, ast.Call):
            yield part.func.attr if isinstance(part.func, ast.Attribute) else part.func.id


def reached():
    known, found = collected()
    for node in found:
        for name in called_in(node):
            for other in known.get(name, []):
                if other not in found and other.name not in FREE[1:]:
                    found.append(other)
    return found


def made_in(node):
    """The local variables that are only ever assigned lists and dicts that are new."""
    new, others = set(), {one.arg for one in ast.walk(node) if isinstance(one, ast.arg)}
    for part in ast.walk(node):
        if isinstance(part, ast.Assign):
            value = part.value
            is_new = isinstance(value, (ast.List, ast.Dict, ast.ListComp, ast.DictComp)) or (
                isinstance(value, ast.Call) and getattr(value.func, "id", None) in MAKING)
            for target in part.targets:
                if isinstance(target, ast.Name):
                    (new if is_new else others).add(target.id)
    return new - others


def changed_in(node):
    """All that a function changes, except what it made."""
    made = made_in(node)
    for part in ast.walk(node):
        targets = []
        if isinstance(part, ast.Assign):
            targets = part.targets
        elif isinstance(part, ast.AugAssign):
            targets = [part.target]
        elif isinstance(part, ast.Delete):
            targets = part.targets
        elif isinstance(part, ast.Call) and getattr(part.func, "attr", None) in MODIFYING:
            if getattr(part.func.value, "id", None) not in made:
                yield ast.unparse(part)
        for target in targets:
            if isinstance(target, ast.Attribute) and not (node.name == "__init__" and target.value.id == "self"):
                yield ast.unparse(part)
            if isinstance(target, ast.Subscript) and getattr(target.value, "id", None) not in made:
                yield ast.unparse(part)


class OperatorsTest(unittest.TestCase):
    def test_the_ones_that_are_looked_at(self):
        names = {node.name for node in reached()}
        for name in ("__eq__", "__lt__", "__le__", "__contains__", "__getitem__", "__len__", "__bool__", "__add__",
                     "kind", "kind_names", "record_names", "log", "check_depth", "is_equal", "parts", "can_be_key"):
            self.assertIn(name, names)

    def test_no_function_that_yields_is_reached(self):
        for node in reached():
            for part in ast.walk(node):
                self.assertNotIsInstance(part, (ast.Yield, ast.YieldFrom), node.name)

    def test_nothing_is_changed_but_what_was_made(self):
        for node in reached():
            self.assertEqual(list(changed_in(node)), [], node.name)

    def test_no_function_is_called_that_was_passed_or_is_held(self):
        for node in reached():
            own = {one.arg for one in ast.walk(node) if isinstance(one, ast.arg)}
            own |= {one.id for one in ast.walk(node) if isinstance(one, ast.Name) and isinstance(one.ctx, ast.Store)}
            for part in ast.walk(node):
                if isinstance(part, ast.Call) and isinstance(part.func, ast.Name):
                    self.assertNotIn(part.func.id, own, node.name)
