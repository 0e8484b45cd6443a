"""The examples of README.md, and the interface that the document lists for the modules that exist."""

import doctest
import inspect
import pathlib
import unittest

from tiespan import boards, certificates, desks, errors, figures, layouts, lots, motions, pages, programs, ratios, ties

README = pathlib.Path(__file__).resolve().parent.parent / "README.md"

INTERFACE = {
    ratios: {
        "ratio": "(top, under=1)", "is_ratio": "(thing)", "add": "(one, other)", "subtract": "(one, other)",
        "multiply": "(one, other)", "divide": "(one, other)", "is_less": "(one, other)", "least": "(*values)",
        "greatest": "(*values)", "ratio_text": "(one)", "read_ratio": "(text)",
    },
    ties: {
        "is_name": "(text)", "is_tie": "(thing)", "names_in": "(tie)", "reduced": "(tie)", "is_kept": "(tie, values)",
        "tie_text": "(tie)", "read_ties": "(text)",
    },
    certificates: {
        "derive": "(lot, tie)", "refute": "(lot)", "derives": "(ties, tie, paper)", "refutes": "(ties, paper)",
    },
    layouts: {"granted": "(lot, wishes)"},
    programs: {
        "read_program": "(text)", "program_text": "(program)", "compiled": "(names, program)",
        "run_program": "(program, values, *choices)",
    },
    pages: {"format_board": "(board)", "parse_board": "(text)", "stretch_table": "(lot)"},
}
METHODS = {
    figures.Figure: {
        "__init__": "(self, rows=())", "nothing": "()", "point": "(x, y)", "rows": "(self)", "corners": "(self)",
        "greatest": "(self, a, b)", "column": "(self, x)", "turned": "(self)", "__contains__": "(self, point)",
        "__mul__": "(self, other)", "__add__": "(self, other)", "__le__": "(self, other)", "__eq__": "(self, other)",
        "__bool__": "(self)", "__len__": "(self)", "__repr__": "(self)",
    },
    lots.Lot: {
        "__init__": "(self, names, ties=())", "read": "(names, text)", "names": "(self)", "ties": "(self)",
        "text": "(self)", "holds": "(self, values)", "stretch": "(self, name)", "shadow": "(self, one, other)",
        "limited": "(self, *names)", "closed": "(self)", "solution": "(self, **targets)", "__add__": "(self, other)",
        "__mul__": "(self, other)", "__le__": "(self, other)", "__eq__": "(self, other)", "__len__": "(self)",
        "__repr__": "(self)",
    },
    layouts.Layout: {
        "__init__": "(self, lot, *wishes)", "lot": "(self)", "wishes": "(self)", "ask": "(self, wish)",
        "drop": "(self, at)", "move": "(self, at, *, to=0)", "reached": "(self)", "solution": "(self)",
        "__len__": "(self)", "__repr__": "(self)",
    },
    motions.Step: {
        "__init__": "(self, names, ties=())", "stay": "(names)", "names": "(self)", "ties": "(self)", "lot": "(self)",
        "closed": "(self)", "allows": "(self, before, after)", "__mul__": "(self, other)", "repeated": "(self, times)",
        "back": "(self)", "moved": "(self, lot)", "__eq__": "(self, other)", "__len__": "(self)", "__repr__": "(self)",
    },
    boards.Board: {
        "__init__": "(self, names, *, limit=20)", "change_limit": "(self, value)", "apply": "(self, *commands)",
        "undo": "(self)", "redo": "(self)", "history": "(self)", "names": "(self)", "labels": "(self)",
        "tie": "(self, label)", "wishes": "(self)", "lot": "(self)", "layout": "(self)", "solution": "(self)",
        "shadow": "(self, one, other)", "kept": "(self)", "verdict": "(self, tie)", "twin": "(self)",
        "__len__": "(self)", "__contains__": "(self, label)", "__repr__": "(self)",
    },
    boards.GuardedBoard: {"__init__": "(self, names, *, limit=20)", "apply": "(self, *commands)"},
    desks.Desk: {
        "__init__": "(self, board)", "of": "(*names)", "ask": "(self, line)", "__call__": "(self, line)",
        "board": "(self)", "log": "(self)", "__len__": "(self)",
    },
}
BASES = {boards.GuardedBoard: (boards.Board,)}
STATIC = {figures.Figure: ["nothing", "point"], lots.Lot: ["read"], motions.Step: ["stay"]}
VALUES = {layouts.Layout: 8, motions.Step: 3, boards.Board: 40}
PROPERTIES = {(lots.Lot, "possible"): False, (boards.Board, "limit"): True, (boards.Board, "busy"): False, (boards.Board, "made"): False}


class ReadmeTest(unittest.TestCase):
    def test_examples(self):
        result = doctest.testfile(str(README), module_relative=False)
        self.assertGreater(result.attempted, 10)
        self.assertEqual(result.failed, 0)


class InterfaceTest(unittest.TestCase):
    def test_functions(self):
        for module, functions in INTERFACE.items():
            for name, told in functions.items():
                function = getattr(module, name)
                self.assertEqual(str(inspect.signature(function)), told)
                self.assertEqual(function.__module__, module.__name__)

    def test_classes(self):
        for kind, methods in METHODS.items():
            self.assertEqual(kind.__bases__, BASES.get(kind, (object,)))
            for name, told in methods.items():
                self.assertIn(name, vars(kind))
                self.assertEqual(str(inspect.signature(getattr(kind, name))), told, name)
                self.assertEqual(getattr(kind, name).__module__, kind.__module__)
            for name in STATIC.get(kind, []):
                self.assertIsInstance(vars(kind)[name], staticmethod)
            if kind in VALUES:
                self.assertEqual(vars(kind)["MOST"], VALUES[kind])
        self.assertIsInstance(vars(desks.Desk)["of"], classmethod)

    def test_properties(self):
        for (kind, name), assigned in PROPERTIES.items():
            self.assertIsInstance(vars(kind)[name], property)
            self.assertEqual(vars(kind)[name].fset is not None, assigned)

    def test_classes_stand_in_their_files(self):
        for module in (figures, lots, layouts, motions, boards, desks):
            kinds = [kind for kind in METHODS if kind.__module__ == module.__name__]
            self.assertGreater(len(kinds), 0)
            for kind in kinds:
                self.assertIs(getattr(module, kind.__name__), kind)

    def test_errors_are_defined_in_their_file(self):
        for name, kind in vars(errors).items():
            if isinstance(kind, type):
                self.assertEqual(kind.__module__, "tiespan.errors", name)


if __name__ == "__main__":
    unittest.main()
