"""The examples of README.md, and the interface that the document lists for the modules that exist."""

import doctest
import inspect
import pathlib
import unittest

from tiespan import errors, figures, ratios, ties

README = pathlib.Path(__file__).resolve().parent.parent / "README.md"

INTERFACE = {
    ratios: {
        "ratio": "(top, under=1)", "is_ratio": "(thing)", "add": "(one, other)", "subtract": "(one, other)",
        "multiply": "(one, other)", "divide": "(one, other)", "is_less": "(one, other)", "least": "(*values)",
        "greatest": "(*values)", "ratio_text": "(one)", "read_ratio": "(text)",
    },
    ties: {
        "is_name": "(text)", "is_tie": "(thing)", "names_in": "(tie)", "reduced": "(tie)", "is_kept": "(tie, values)",
        "tie_text": "(tie)", "read_ties": "(text)",
    },
}
METHODS = {
    "__init__": "(self, rows=())", "nothing": "()", "point": "(x, y)", "rows": "(self)", "corners": "(self)",
    "greatest": "(self, a, b)", "column": "(self, x)", "turned": "(self)", "__contains__": "(self, point)",
    "__mul__": "(self, other)", "__add__": "(self, other)", "__le__": "(self, other)", "__eq__": "(self, other)",
    "__bool__": "(self)", "__len__": "(self)", "__repr__": "(self)",
}


class ReadmeTest(unittest.TestCase):
    def test_examples(self):
        result = doctest.testfile(str(README), module_relative=False)
        self.assertGreater(result.attempted, 10)
        self.assertEqual(result.failed, 0)


class InterfaceTest(unittest.TestCase):
    def test_functions(self):
        for module, functions in INTERFACE.items():
            for name, told in functions.items():
                function = getattr(module, name)
                self.assertEqual(str(inspect.signature(function)), told)
                self.assertEqual(function.__module__, module.__name__)

    def test_figure(self):
        self.assertEqual(figures.Figure.__module__, "tiespan.figures")
        self.assertEqual(figures.Figure.__bases__, (object,))
        for name, told in METHODS.items():
            self.assertIn(name, vars(figures.Figure))
            method = getattr(figures.Figure, name)
            self.assertEqual(str(inspect.signature(method)), told)
        for name in ("nothing", "point"):
            self.assertIsInstance(vars(figures.Figure)[name], staticmethod)

    def test_errors_are_defined_in_their_file(self):
        for name, kind in vars(errors).items():
            if isinstance(kind, type):
                self.assertEqual(kind.__module__, "tiespan.errors", name)


if __name__ == "__main__":
    unittest.main()
