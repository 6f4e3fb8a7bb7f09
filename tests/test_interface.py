"""The interface of the document: each name stands in its file, with the arguments as written."""

import importlib
import inspect
import unittest

FUNCTIONS = {
    "ranges": {
        "meets": ["one", "other"],
        "lies_within": ["one", "other"],
        "common": ["one", "other"],
        "joined": ["one", "other"],
        "stepped": ["one", "factor", "add"],
    },
    "holdings": {
        "least_holding": ["system"],
        "is_holding": ["system", "ranges"],
        "counts": ["system", "ranges", "number"],
        "gives": ["system", "ranges", "number"],
    },
    "moves": {
        "derivation": ["system"],
        "follows": ["system", "moves"],
        "is_derivation": ["system", "moves"],
    },
    "spare": {
        "idle_rules": ["system"],
        "needless_rules": ["system"],
        "fewest_cuts": ["system", "name", "within"],
    },
    "limits": {
        "greatest_high": ["system", "number", "name", "limit"],
        "greatest_bound": ["system", "number", "name", "limit"],
    },
}
CLASSES = {
    "systems": {
        "System": {
            "__init__": ["names", "rules"],
            "without": ["numbers"],
            "with_rule": ["rule"],
            "beside": ["other"],
            "renamed": ["names"],
            "mirrored": [],
            "moved": ["shifts"],
            "stretched": ["times"],
        },
    },
}


def arguments(function):
    return list(inspect.signature(function).parameters)


def named(file, name):
    return getattr(importlib.import_module(f"tightranges.{file}"), name)


class Interface(unittest.TestCase):
    def test_functions(self):
        for file, functions in FUNCTIONS.items():
            for name, expected in functions.items():
                function = named(file, name)
                self.assertEqual(arguments(function), expected, name)
                self.assertEqual(function.__module__, f"tightranges.{file}", name)

    def test_classes(self):
        for file, classes in CLASSES.items():
            for name, methods in classes.items():
                one = named(file, name)
                self.assertEqual(one.__module__, f"tightranges.{file}", name)
                for method, expected in methods.items():
                    self.assertEqual(arguments(vars(one)[method]), ["self"] + expected, (name, method))


if __name__ == "__main__":
    unittest.main()
