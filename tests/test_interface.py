"""Each name of the interface stands in its own file, and each method in its own class."""

import importlib
import inspect
import unittest

FUNCTIONS = {
    "numbering": ["every_numbering"],
    "program": ["standard_program"],
    "system": ["assemble", "exchange", "rename"],
    "hall": ["visit"],
    "rings": ["obstacle", "ring", "lockstep"],
    "search": ["judge", "first_trouble"],
    "progress": ["measure", "helper"],
}
CLASSES = {
    "numbering": {"Numbering": ["__call__", "__mul__", "__invert__", "__pow__", "power", "__eq__",
                                "__lt__", "__len__", "__iter__", "plain", "turn"]},
    "program": {"Program": ["text", "read", "listing", "__len__", "__iter__"]},
    "system": {"System": ["start", "step", "sees", "inside", "resting", "run", "exchanged",
                          "renamed", "form"]},
    "hall": {"Hall": ["add_worker", "contents", "free", "occupants", "capacity", "change_capacity"],
             "Desk": ["__getitem__", "__setitem__", "__iter__", "take", "give", "share", "enough",
                      "behind", "enter", "leave"]},
    "verdicts": {name: ["report"] for name in ("Verdict", "Trouble", "Crowd", "Stall", "Table")},
}


def module(name):
    return importlib.import_module(f"ownlabels.{name}")


class InterfaceTest(unittest.TestCase):
    def test_functions(self):
        for name, functions in FUNCTIONS.items():
            for function in functions:
                with self.subTest(module=name, function=function):
                    found = getattr(module(name), function)
                    self.assertTrue(inspect.isfunction(found))
                    self.assertEqual(found.__module__, f"ownlabels.{name}")

    def test_classes(self):
        for name, classes in CLASSES.items():
            for kind, methods in classes.items():
                found = getattr(module(name), kind)
                self.assertEqual(found.__module__, f"ownlabels.{name}")
                for method in methods:
                    with self.subTest(kind=kind, method=method):
                        self.assertIn(method, vars(found))


if __name__ == "__main__":
    unittest.main()
