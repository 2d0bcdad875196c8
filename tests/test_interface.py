"""The interface: what stands in which file, with which names of arguments."""

import ast
import importlib
import pathlib
import unittest

PACKAGE = pathlib.Path(__file__).resolve().parent.parent / "anyshift"

FUNCTIONS = {
    "patterns": {
        "is_pattern": ["thing"], "sends": ["pattern", "offset", "tick"], "share": ["pattern"], "shortest": ["pattern"],
        "turned": ["pattern", "by"], "matching": ["one", "other"],
    },
    "groups": {
        "is_group": ["thing"], "span": ["group"], "is_offsets": ["group", "thing"],
        "ticks_later": ["group", "offsets", "others"], "earliest": ["group", "offsets"], "classes": ["group"],
    },
    "counts": {
        "heard": ["group", "offsets"], "counts": ["group", "offsets"], "meets": ["group", "offsets", "some"],
        "fewest": ["group", "kind"], "greatest": ["group", "kind"], "average": ["group", "kind"],
        "shows_fewest": ["group", "kind", "thing"],
    },
    "pairs": {"pair_meets": ["one", "other"], "sure_bound": ["group", "who"]},
    "evens": {"is_even": ["group"], "uneven": ["group"], "even_with": ["shares"]},
    "shuts": {"shut_out": ["group", "who"], "is_safe": ["group"], "addition": ["group", "period"]},
    "waits": {"longest_wait": ["group", "who"], "stop_ticks": ["group", "offsets"], "last_stop": ["group"]},
    "codes": {
        "distances": ["pattern"], "meet_once": ["one", "other"], "smallest_code": ["period", "slots", "many"],
        "code_size": ["period", "slots"],
    },
    "sounds": {
        "sound": ["group", "offsets"], "same_sound": ["group", "offsets", "others"], "unclear": ["group"],
    },
    "texts": {
        "pattern_text": ["pattern"], "group_text": ["group"], "offsets_text": ["group", "offsets"], "heard_text": ["heard"],
        "read_pattern": ["text"], "read_group": ["text"], "read_offsets": ["group", "text"], "read_heard": ["text"],
    },
}

# The methods that the interface lists for each class of anyshift.lines, and the properties.
METHODS = {
    "Line": {
        "start": ["self", "who"], "stop": ["self", "who"], "tick": ["self"], "run": ["self", "ticks"], "undo": ["self"],
        "trial": ["self", "task"], "__init__": ["self"], "__getitem__": ["self", "who"], "__call__": ["self", "who"],
        "__contains__": ["self", "thing"], "__len__": ["self"], "__eq__": ["self", "other"], "__repr__": ["self"],
    },
    "Stopping": {"__init__": ["self"]},
    "Logged": {"__init__": ["self"]},
    "StoppingLogged": {"__init__": ["self"]},
}
PROPERTIES = {
    "Line": ["group", "now", "active", "through", "collisions", "deeds"], "Stopping": [], "Logged": ["log"],
    "StoppingLogged": ["log"],
}


class TestInterface(unittest.TestCase):
    def test_functions_are_defined_in_their_files(self):
        for name, functions in FUNCTIONS.items():
            tree = ast.parse((PACKAGE / f"{name}.py").read_text())
            found = {row.name: [each.arg for each in row.args.args] for row in tree.body
                     if isinstance(row, ast.FunctionDef)}
            for function, arguments in functions.items():
                self.assertEqual(found.get(function), arguments, function)

    def test_functions_can_be_imported(self):
        for name, functions in FUNCTIONS.items():
            module = importlib.import_module(f"anyshift.{name}")
            for function in functions:
                self.assertEqual(getattr(module, function).__module__, f"anyshift.{name}")

    def test_methods_are_defined_in_their_classes(self):
        tree = ast.parse((PACKAGE / "lines.py").read_text())
        rows = {row.name: row for row in tree.body if isinstance(row, ast.ClassDef)}
        self.assertEqual(sorted(rows), sorted(METHODS))
        for name, methods in METHODS.items():
            found = {row.name: row for row in rows[name].body if isinstance(row, ast.FunctionDef)}
            for method, arguments in methods.items():
                self.assertEqual([each.arg for each in found[method].args.args], arguments, (name, method))
                self.assertEqual(found[method].decorator_list, [])
            self.assertEqual(found["__init__"].args.vararg.arg, "patterns")
            for each in PROPERTIES[name]:
                self.assertEqual([mark.id for mark in found[each].decorator_list], ["property"], (name, each))
            made = getattr(importlib.import_module("anyshift.lines"), name)
            self.assertEqual((made.__module__, made.__name__), ("anyshift.lines", name))

    def test_errors_are_defined_in_their_file(self):
        tree = ast.parse((PACKAGE / "errors.py").read_text())
        found = {row.name: row for row in tree.body if isinstance(row, ast.ClassDef)}
        self.assertEqual(len(found), 24)
        for name, first in (("TooLong", "span"), ("TooMany", "many")):
            init = [row for row in found[name].body if isinstance(row, ast.FunctionDef)][0]
            self.assertEqual([each.arg for each in init.args.args], ["self", first, "limit"])


if __name__ == "__main__":
    unittest.main()
