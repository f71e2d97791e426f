"""The interface: names, arguments, and the files in which they are defined."""

import ast
import inspect
import unittest
from importlib import import_module
from pathlib import Path

PACKAGE = Path(__file__).resolve().parent.parent / "relume"

FUNCTIONS = {
    "nets": {"check_net": ["net"], "check_state": ["net", "state"], "is_full": ["net", "state"]},
    "islands": {"islands_of": ["net", "state"], "is_lit": ["net", "state", "island"]},
}

CLASSES = {
    "errors": ["LightError", "BadNet", "BadState", "OutOfRange", "NotAllowed", "TooLong",
               "BadCommand"],
}


def defined_names(file, kind):
    """Return the names that the file itself defines, not those that it imports."""
    rows = ast.parse((PACKAGE / f"{file}.py").read_text(encoding="ascii")).body
    return [row.name for row in rows if isinstance(row, kind)]


class InterfaceTest(unittest.TestCase):
    def test_functions(self):
        for file, functions in FUNCTIONS.items():
            module = import_module(f"relume.{file}")
            for name, parameters in functions.items():
                with self.subTest(file=file, name=name):
                    self.assertIn(name, defined_names(file, ast.FunctionDef))
                    signature = inspect.signature(getattr(module, name))
                    self.assertEqual(list(signature.parameters), parameters)

    def test_classes(self):
        for file, classes in CLASSES.items():
            for name in classes:
                with self.subTest(file=file, name=name):
                    self.assertIn(name, defined_names(file, ast.ClassDef))

    def test_arguments_may_be_passed_by_name(self):
        nets = import_module("relume.nets")
        islands = import_module("relume.islands")
        net = (2, [(0, 1, 1, 1)], [(0, 0, 1, True)], [])
        state = ((0,), (0,), ())
        self.assertIsNone(nets.check_net(net=net))
        self.assertIsNone(nets.check_state(net=net, state=state))
        self.assertIs(nets.is_full(net=net, state=state), True)
        self.assertEqual(islands.islands_of(net=net, state=state), [[0, 1]])
        self.assertIs(islands.is_lit(net=net, state=state, island=[0, 1]), True)


if __name__ == "__main__":
    unittest.main()
