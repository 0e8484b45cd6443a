"""Promise 59: the errors, their base classes, attributes, arguments and tags."""

import unittest

from tiespan import errors
from tiespan.figures import Figure
from tiespan.ratios import divide, ratio, read_ratio
from tiespan.ties import read_ties

TIE_ERRORS = {
    "InvalidRatio": "given", "InvalidRow": "at", "InvalidName": "name", "InvalidTie": "at", "InvalidWish": "at",
    "InvalidTimes": "given", "InvalidLimit": "given", "InvalidCommand": "first", "NotTied": "many", "SameName": "name",
    "NamesDiffer": None, "EmptyFigure": None, "Impossible": None, "Possible": "answer", "NotImplied": "answer",
    "ParseError": "at", "DuplicateLabel": "label", "CapacityExceeded": "most",
}
MISSING = {"UnknownName": "name", "UnknownLabel": "label"}
WORTHS = [0, -3, 10 ** 31, "x", "", None, True, (1, 2), [1, [2]], {"x": (1, 2)}]


class ErrorsTest(unittest.TestCase):
    def check_class(self, name, base, attribute):
        kind = getattr(errors, name)
        self.assertEqual(kind.__bases__, (base,))
        self.assertEqual(kind.__module__, "tiespan.errors")
        if attribute is None:
            error = kind()
            self.assertEqual((error.tag, vars(error), error.args), (name, {"tag": name}, ()))
            with self.assertRaises(TypeError):
                kind(1)
            return
        for worth in WORTHS:
            error = kind(worth)
            self.assertEqual((error.tag, getattr(error, attribute)), (name, worth))
            self.assertIs(getattr(error, attribute), worth)
            self.assertEqual(set(vars(error)), {"tag", attribute})
            self.assertEqual(error.args, (worth,))
            self.assertEqual(getattr(kind(**{attribute: worth}), attribute), worth)
        with self.assertRaises(TypeError):
            kind()
        with self.assertRaises(TypeError):
            kind(1, 2)

    def test_bases(self):
        self.check_class("TieError", ValueError, None)
        self.check_class("Missing", LookupError, None)
        self.check_class("NothingLeft", IndexError, None)

    def test_tie_errors(self):
        for name, attribute in TIE_ERRORS.items():
            with self.subTest(name=name):
                self.check_class(name, errors.TieError, attribute)

    def test_missing(self):
        for name, attribute in MISSING.items():
            with self.subTest(name=name):
                self.check_class(name, errors.Missing, attribute)

    def test_no_other_class(self):
        found = {name for name in vars(errors) if not name.startswith("__")}
        self.assertEqual(found, {"TieError", "Missing", "NothingLeft", *TIE_ERRORS, *MISSING})

    def test_raised_by_calls(self):
        calls = [
            ("InvalidRatio", {"given": 0}, lambda: ratio(3, 0)),
            ("InvalidRatio", {"given": 0}, lambda: divide((1, 2), (0, 1))),
            ("ParseError", {"at": 0}, lambda: read_ratio("2/4")),
            ("ParseError", {"at": 5}, lambda: read_ties("x <= ")),
            ("NotTied", {"many": 3}, lambda: read_ties("x <= y + z")),
            ("InvalidRow", {"at": 1}, lambda: Figure([(1, 0, (0, 1)), None])),
            ("EmptyFigure", {}, lambda: Figure.nothing().greatest(1, 0)),
        ]
        for name, told, call in calls:
            with self.subTest(name=name):
                with self.assertRaises(errors.TieError) as caught:
                    call()
                self.assertIs(caught.exception.__class__, getattr(errors, name))
                self.assertEqual(vars(caught.exception), {"tag": name, **told})


if __name__ == "__main__":
    unittest.main()
