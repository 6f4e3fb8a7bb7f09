"""The interface of the document: each name stands in its file, with the arguments as written."""

import importlib
import inspect
import unittest

FUNCTIONS = {
    "ranges": {
        "meets": ["one", "other"],
        "lies_within": ["one", "other"],
        "common": ["one", "other"],
        "joined": ["one", "other"],
        "stepped": ["one", "factor", "add"],
    },
    "holdings": {
        "least_holding": ["system"],
        "is_holding": ["system", "ranges"],
        "counts": ["system", "ranges", "number"],
        "gives": ["system", "ranges", "number"],
    },
    "moves": {
        "derivation": ["system"],
        "follows": ["system", "moves"],
        "is_derivation": ["system", "moves"],
    },
    "spare": {
        "idle_rules": ["system"],
        "needless_rules": ["system"],
        "fewest_cuts": ["system", "name", "within"],
    },
    "limits": {
        "greatest_high": ["system", "number", "name", "limit"],
        "greatest_bound": ["system", "number", "name", "limit"],
    },
    "runs": {
        "is_run": ["system", "moves"],
        "values_behind": ["system", "moves"],
    },
    "texts": {
        "show_range": ["one"],
        "show_rule": ["rule"],
        "show_system": ["system"],
    },
    "readings": {
        "read_range": ["text"],
        "read_rule": ["text"],
        "read_system": ["text"],
    },
}
CLASSES = {
    "systems": {
        "System": {
            "__init__": ["names", "rules"],
            "without": ["numbers"],
            "with_rule": ["rule"],
            "beside": ["other"],
            "renamed": ["names"],
            "mirrored": [],
            "moved": ["shifts"],
            "stretched": ["times"],
        },
    },
    "sheets": {
        "Sheet": {
            "__init__": ["system"],
            "range_of": ["name"],
            "unreached": [],
            "add": ["rule"],
            "drop": ["number"],
            "put": ["number", "rule"],
            "undo": [],
        },
    },
}
CLASS_METHODS = {("sheets", "Sheet", "of_text"): ["text"]}
PROPERTIES = [("systems", "System", "names"), ("systems", "System", "rules"), ("sheets", "Sheet", "system")]


def arguments(function):
    return list(inspect.signature(function).parameters)


def named(file, name):
    return getattr(importlib.import_module(f"tightranges.{file}"), name)


class Interface(unittest.TestCase):
    def test_functions(self):
        for file, functions in FUNCTIONS.items():
            for name, expected in functions.items():
                function = named(file, name)
                self.assertEqual(arguments(function), expected, name)
                self.assertEqual(function.__module__, f"tightranges.{file}", name)

    def test_classes(self):
        for file, classes in CLASSES.items():
            for name, methods in classes.items():
                one = named(file, name)
                self.assertEqual(one.__module__, f"tightranges.{file}", name)
                for method, expected in methods.items():
                    self.assertEqual(arguments(vars(one)[method]), ["self"] + expected, (name, method))

    def test_class_methods(self):
        for (file, name, method), expected in CLASS_METHODS.items():
            one = vars(named(file, name))[method]
            self.assertIsInstance(one, classmethod)
            self.assertEqual(arguments(one.__func__), ["cls"] + expected)

    def test_properties(self):
        for file, name, one in PROPERTIES:
            self.assertIsInstance(vars(named(file, name))[one], property)


if __name__ == "__main__":
    unittest.main()
