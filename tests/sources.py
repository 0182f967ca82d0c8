"""The files of the package as texts, and the names that stand in a text."""

import ast
import pathlib

import turnfriends

PACKAGE = pathlib.Path(turnfriends.__file__).parent


def files():
    return sorted(path for path in PACKAGE.rglob("*.py"))


def texts(value):
    """The texts among what a field of a node holds: one thing, or a list."""
    return [part for part in (value if isinstance(value, list) else [value]) if isinstance(part, str)]


def quoted_names(node):
    """The strings of a node that name attributes: slots, and those of getattr and its kin."""
    named = []
    if isinstance(node, ast.Assign) and any(isinstance(to, ast.Name) and to.id == "__slots__" for to in node.targets):
        named = list(ast.walk(node.value))
    if isinstance(node, ast.Call) and isinstance(node.func, ast.Name) and node.func.id in ("getattr", "hasattr", "setattr"):
        named = node.args[1:2]
    return [part.value for part in named if isinstance(part, ast.Constant) and isinstance(part.value, str)]


def names_in(text):
    """All names of a text: triples of the row, the name, and whether it is that of an attribute or a method."""
    tree = ast.parse(text)
    methods = {id(part) for node in ast.walk(tree) if isinstance(node, ast.ClassDef) for part in node.body
               if isinstance(part, (ast.FunctionDef, ast.AsyncFunctionDef))}
    found = []
    for node in ast.walk(tree):
        found += [(node.lineno, name, True) for name in quoted_names(node)]
        # All texts that a node holds are names, but for those of a literal.
        if not isinstance(node, ast.Constant):
            for field, value in ast.iter_fields(node):
                member = isinstance(node, ast.Attribute) or field == "kwd_attrs" or id(node) in methods
                found += [(node.lineno, name, member) for told in texts(value) for name in told.split(".")]
    return sorted(found)
