"""The document's interface: where each name stands, and what it takes."""

import ast
import importlib
import inspect
import unittest
from pathlib import Path

PACKAGE = Path(__file__).resolve().parent.parent / "cornerlines"
FUNCTIONS = {
    "lines": {
        "is_grain": "thing", "is_point": "thing", "is_line": "thing", "are_lines": "thing", "corner_of": "grain point",
    },
    "spots": {"is_spot": "thing", "spot_of": "n m d", "corner_at": "grain spot"},
    "texts": {"show_lines": "grain lines", "read_lines": "text", "show_paths": "paths", "read_paths": "text"},
    "crossing": {"common": "one other", "common_paper": "one other"},
    "commonchecks": {"common_holds": "one other thing"},
    "wants": {"wants_of": "grain lines", "corners_of": "grain lines"},
    "wantchecks": {
        "unwanted_paper": "grain lines corner", "unwanted_holds": "grain lines corner thing",
    },
    "cells": {"meets": "grain line corner", "meets_paper": "grain line corner"},
    "cellchecks": {"meets_holds": "grain line corner thing"},
    "paths": {"is_path": "thing", "path_of": "grain line corners", "drawn": "grain lines"},
    "pathchecks": {"path_paper": "grain line corners", "path_holds": "grain line corners path thing"},
    "offs": {"off_of": "grain line path", "off_paper": "grain line path"},
    "offchecks": {"off_holds": "grain line path off thing"},
    "links": {"links_of": "paths"},
    "planes": {"trouble_of": "paths"},
    "sides": {"stretches": "one other", "passes": "one other", "sides_paper": "one other"},
    "sidechecks": {"sides_holds": "one other thing"},
    "settling": {
        "again": "corners paths", "doings": "corners paths", "settled": "corners paths", "unsettled": "corners paths",
    },
    "becoming": {"becoming": "corners one other"},
    "becomechecks": {"becoming_holds": "corners one other thing"},
    "rounds": {"round_of": "paths corner"},
    "leaving": {"leavings": "grain lines corner"},
    "walks": {"walks_of": "paths", "walk_area": "walk"},
    "lands": {"lands_of": "paths", "land_area": "land"},
    "walkchecks": {"walks_holds": "paths thing"},
    "knots": {"knots_of": "lines", "pieces_of": "lines"},
    "straights": {"straight_walks": "lines", "straight_lands": "lines", "straight_area": "grain land"},
    "sources": {"sources": "grain lines", "became": "grain lines"},
    "bentwalks": {"bent_walk": "grain lines walk"},
    "asks": {"where": "paths grain spot"},
    "findings": {"finding_holds": "thing"},
}
CLASSES = {
    "errors": "DrawError NoText NoNumber TooMany NoName Taken NoLine NoBack NoRow Used".split(),
    "boards": ["Board"],
    "stands": ["Stand"],
    "desk": ["Desk"],
}
# Each class with its methods and what they take, itself first.
METHODS = {
    ("boards", "Board"): {
        "__init__": "self grain", "put": "self line", "out": "self number", "turn": "self number line",
        "lines": "self", "corners": "self", "wants": "self", "path": "self number", "came": "self", "went": "self",
        "moved": "self",
    },
    ("stands", "Stand"): {
        "__init__": "self grain", "put": "self name point", "move": "self name point", "drop": "self name",
        "join": "self name one other", "cut": "self name", "back": "self many", "points": "self", "lines": "self",
        "deeds": "self", "drawing": "self", "path": "self name", "moved": "self",
    },
    ("desk", "Desk"): {"__init__": "self", "say": "self text"},
}


class InterfaceTest(unittest.TestCase):
    def defined(self, module, kind):
        tree = ast.parse((PACKAGE / f"{module}.py").read_text(encoding="utf-8"))
        return [node.name for node in tree.body if isinstance(node, kind)]

    def test_functions(self):
        for module, rows in FUNCTIONS.items():
            names = self.defined(module, ast.FunctionDef)
            for name, arguments in rows.items():
                self.assertIn(name, names, module)
                call = getattr(importlib.import_module(f"cornerlines.{module}"), name)
                told = inspect.signature(call).parameters
                self.assertEqual(" ".join(told), arguments, name)
                for parameter in told.values():
                    self.assertIs(parameter.default, inspect.Parameter.empty, name)

    def test_classes(self):
        for module, rows in CLASSES.items():
            names = self.defined(module, ast.ClassDef)
            for name in rows:
                self.assertIn(name, names, module)

    def test_methods(self):
        for (module, name), rows in METHODS.items():
            made = getattr(importlib.import_module(f"cornerlines.{module}"), name)
            for method, arguments in rows.items():
                # In the class itself, not in one below it.
                self.assertIn(method, vars(made), name)
                told = inspect.signature(vars(made)[method]).parameters
                self.assertEqual(" ".join(told), arguments, method)


if __name__ == "__main__":
    unittest.main()
