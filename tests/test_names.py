"""Each name in the package means one thing: no local name is that of a class, an import or a builtin."""

import ast
import builtins
import pathlib
import unittest

import staged

FILES = sorted(pathlib.Path(staged.__file__).parent.glob("*.py"))


def local_names(function):
    """Yield the names that a function gives a meaning: its parameters, variables and nested functions."""
    for node in ast.walk(function):
        if isinstance(node, ast.arg):
            yield node.arg
        elif isinstance(node, ast.Name) and not isinstance(node.ctx, ast.Load):
            yield node.id
        elif isinstance(node, ast.FunctionDef) and node is not function:
            yield node.name
        elif isinstance(node, (ast.ExceptHandler, ast.MatchAs, ast.MatchStar)) and node.name is not None:
            yield node.name


def barred_names(tree):
    """Return the names of a file's imports and classes, and of the builtins."""
    barred = set(dir(builtins))
    for node in tree.body:
        if isinstance(node, ast.ImportFrom):
            barred.update(name.asname or name.name for name in node.names)
        elif isinstance(node, ast.ClassDef):
            barred.add(node.name)
    return barred


def faults(text):
    """Return the local names of a file's functions that are barred in it."""
    tree = ast.parse(text)
    barred = barred_names(tree)
    functions = [node for node in ast.walk(tree) if isinstance(node, ast.FunctionDef)]
    return sorted({name for function in functions for name in local_names(function) if name in barred})


class NamesTest(unittest.TestCase):
    def test_the_check_finds_faults(self):
        head = "from staged.programs import nodes\n\n\nclass Box:\n    pass\n\n\n"
        for body, expected in (
                ("def f(nodes):\n    return nodes\n", ["nodes"]),
                ("def f(one):\n    nodes = one\n    return nodes\n", ["nodes"]),
                ("def f(one):\n    return [nodes for nodes in one]\n", ["nodes"]),
                ("def f(one):\n    for at, nodes in one:\n        return at\n", ["nodes"]),
                ("def f(one):\n    def nodes():\n        return one\n    return nodes\n", ["nodes"]),
                ("def f(one):\n    match one:\n        case (nodes, *len):\n            return nodes\n",
                 ["len", "nodes"]),
                ("def f(Box):\n    next = Box\n    return next\n", ["Box", "next"]),
                ("def f(one):\n    return [len(nodes(one)), Box()]\n", [])):
            with self.subTest(body):
                self.assertEqual(faults(head + body), expected)

    def test_each_file(self):
        self.assertGreater(len(FILES), 8)
        for path in FILES:
            with self.subTest(path.name):
                self.assertEqual(faults(path.read_text(encoding="utf-8")), [])


if __name__ == "__main__":
    unittest.main()
