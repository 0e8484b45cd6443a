"""Promises 16 to 20, 22 and 80: what a lot is given and holds, its texts and errors, and its plain answers."""

import unittest

from tests.plain_lots import ANYTHING
from tiespan.errors import Impossible, InvalidName, InvalidTie, NotTied, ParseError, SameName, UnknownName
from tiespan.figures import Figure
from tiespan.lots import Lot
from tiespan.motions import Step
from tiespan.ties import read_ties

X_AT_MOST_1 = ((("x", (1, 1)),), (1, 1))
X_AT_LEAST_2 = ((("x", (-1, 1)),), (-2, 1))
X_BELOW_Y = ((("x", (1, 1)), ("y", (-1, 1))), (0, 1))
HALVES = ((("x", (1, 2)), ("y", (-3, 2))), (5, 2))

NO_TIES = [
    None, True, 7, "x <= 1", (), (1, 2), [X_AT_MOST_1], list(X_AT_MOST_1), ((("x", (1, 1)),), 1), (("x", (1, 1)), (1, 1)),
    ((("x", (0, 1)),), (1, 1)), ((("x", (2, 2)),), (1, 1)), ((("x", (1, 1)),), (2, 4)), ((), (1, 1)),
    ((("y", (1, 1)), ("x", (1, 1))), (1, 1)), ((("x", (1, 1)), ("x", (1, 1))), (1, 1)), ((["x", (1, 1)],), (1, 1)),
    ([("x", (1, 1))], (1, 1)), ((("x", (True, 1)),), (1, 1)), ((("X", (1, 1)),), (1, 1)), ((("z", (1, 1)),), (1, 1)),
    ((("x", (1, 1)), ("z", (1, 1))), (1, 1)), ((("x'", (1, 1)),), (1, 1)),
]
NO_NAMES = ["", "X", "x1", "x''", "'", "abcdefg", "abcdefg'", "x y", " x", "\n", "x\n", "x-y"]


class HeldTest(unittest.TestCase):
    def test_names_are_ascending(self):
        lot = Lot(["y", "xa'", "x", "xa", "x'"])
        self.assertEqual(lot.names(), ["x", "x'", "xa", "xa'", "y"])
        self.assertEqual(Lot([]).names(), [])
        self.assertEqual(Lot(["f", "e", "d", "c", "b", "a"]).names(), ["a", "b", "c", "d", "e", "f"])

    def test_ties_stay_as_they_are_and_in_order(self):
        lot = Lot(["x", "y"], [X_BELOW_Y, HALVES, X_AT_MOST_1, HALVES])
        self.assertEqual(lot.ties(), [X_BELOW_Y, HALVES, X_AT_MOST_1, HALVES])
        self.assertEqual(lot.text(), "x - y <= 0; x - 3*y <= 5; x <= 1; x - 3*y <= 5")
        self.assertEqual(len(lot), 4)
        self.assertEqual(Lot(["x"]).ties(), [])
        self.assertEqual(Lot(["x"]).text(), "")
        self.assertEqual(len(Lot(["x"])), 0)

    def test_sixty_ties(self):
        ties = [((("x", (1, 1)),), (60 - at, 1)) for at in range(60)]
        lot = Lot(["x"], ties)
        self.assertEqual((len(lot), lot.ties(), lot.stretch("x")), (60, ties, (None, (1, 1))))

    def test_changed_lists_change_no_lot(self):
        names, ties = ["x", "y"], [X_BELOW_Y]
        lot = Lot(names, ties)
        names.append("z")
        ties.append(HALVES)
        self.assertEqual((lot.names(), lot.ties()), (["x", "y"], [X_BELOW_Y]))
        lot.names().append("z")
        lot.ties().clear()
        self.assertEqual((lot.names(), lot.ties()), (["x", "y"], [X_BELOW_Y]))
        self.assertEqual(names, ["x", "y", "z"])

    def test_tuples_in_the_place_of_lists(self):
        lot = Lot(("y", "x"), (X_BELOW_Y, HALVES))
        self.assertEqual(lot.names(), ["x", "y"])
        self.assertEqual(lot.ties(), [X_BELOW_Y, HALVES])
        self.assertIsInstance(lot.names(), list)
        self.assertIsInstance(lot.ties(), list)
        self.assertEqual(lot, Lot(["x", "y"], [X_BELOW_Y, HALVES]))
        self.assertEqual(Lot.read(("x", "y"), "x <= y").ties(), [X_BELOW_Y])

    def test_more_names_than_six_are_no_error(self):
        names = ["a", "b", "c", "d", "e", "f", "g"]
        lot = Lot.read(names, "a <= b; b <= c; c <= d; d <= e; e <= f; f <= g; g <= 1; a >= 1")
        self.assertEqual(lot.solution(), {name: (1, 1) for name in names})

    def test_repr(self):
        self.assertEqual(repr(Lot([])), "Lot(0 names, 0 ties)")
        self.assertEqual(repr(Lot(["x"], [X_AT_MOST_1])), "Lot(1 names, 1 ties)")
        self.assertEqual(repr(Lot.read(["x", "y"], "x = y; x <= 1")), "Lot(2 names, 3 ties)")

    def test_keywords(self):
        self.assertEqual(Lot(ties=[X_BELOW_Y], names=["x", "y"]), Lot(["x", "y"], [X_BELOW_Y]))
        lot = Lot.read(text="x <= y; y <= 3", names=["x", "y"])
        self.assertEqual(lot.ties(), read_ties("x <= y") + read_ties("y <= 3"))
        self.assertEqual(lot.stretch(name="x"), (None, (3, 1)))
        self.assertEqual(lot.shadow(other="x", one="y"), lot.shadow("y", "x"))
        self.assertTrue(lot.holds(values={"x": (1, 1), "y": (1, 1)}))


class ReadTest(unittest.TestCase):
    def test_parts(self):
        lot = Lot.read(["y", "x"], "2*x <= 4 + x; x = y;  1 >= y ")
        self.assertEqual(lot.text(), "x <= 4; x - y <= 0; -x + y <= 0; y <= 1")
        self.assertEqual(Lot.read([], "").ties(), [])
        self.assertEqual(Lot.read(["x"], "").names(), ["x"])

    def test_written_texts_are_read(self):
        text = "2*x - y <= 1/2; -x <= 0; x + 3*y <= -7"
        self.assertEqual(Lot.read(["x", "y"], text).text(), text)

    def test_errors_of_the_first_part_that_has_one(self):
        cases = [
            ("x <= 1; x << 2; x", ParseError, 2), ("x <= 1; ", ParseError, 0), ("; x <= 1", ParseError, 0),
            ("x <= 1;", ParseError, 6), ("x <= 1;x <= 2", ParseError, 6), (" ", ParseError, 1),
            ("x <= 1;  ; 1", ParseError, 1),
        ]
        for text, kind, at in cases:
            with self.subTest(text=text), self.assertRaises(kind) as caught:
                Lot.read(["x"], text)
            self.assertEqual(caught.exception.at, at)
        for text, many in [("x <= 1; 1 <= 2; x", 0), ("x + y <= z; x <=", 3), ("x - x <= 0", 0)]:
            with self.subTest(text=text), self.assertRaises(NotTied) as caught:
                Lot.read(["x"], text)
            self.assertEqual(caught.exception.many, many)

    def test_errors_of_texts_come_ahead_of_those_of_lots(self):
        with self.assertRaises(ParseError):
            Lot.read(["X"], "z <= 1; x <=")
        with self.assertRaises(NotTied):
            Lot.read(["x", "x"], "z <= 1; 1 <= 2")
        with self.assertRaises(InvalidName) as caught:
            Lot.read(["x", "X"], "z <= 1")
        self.assertEqual(caught.exception.name, "X")
        with self.assertRaises(InvalidTie) as caught:
            Lot.read(["x"], "x = 1; x <= z; y <= 1")
        self.assertEqual(caught.exception.at, 2)


class InvalidTest(unittest.TestCase):
    def refused(self, names, ties=()):
        with self.assertRaises(InvalidName) as caught:
            Lot(names, ties)
        return caught.exception.name

    def test_names(self):
        for name in NO_NAMES:
            self.assertEqual(self.refused(["x", name, "Y"]), name)
        self.assertEqual(self.refused(["x", "y", "x", "Z"]), "x")
        self.assertEqual(self.refused(["x", "Z", "x"]), "Z")
        self.assertEqual(self.refused(("x'", "x'")), "x'")
        self.assertEqual(self.refused(["x", "X"], [None]), "X")

    def test_any_value_as_a_tie(self):
        for thing in NO_TIES + ANYTHING:
            with self.subTest(thing=thing), self.assertRaises(InvalidTie) as caught:
                Lot(["x", "y"], [X_BELOW_Y, thing, None])
            self.assertEqual(caught.exception.at, 1)

    def test_another_name(self):
        for names in ([], ["x"], ["x", "z"], ["x'", "y'"]):
            with self.assertRaises(InvalidTie) as caught:
                Lot(names, (X_BELOW_Y,))
            self.assertEqual(caught.exception.at, 0)

    def test_tags(self):
        for make, tag in ((lambda: Lot(["X"]), "InvalidName"), (lambda: Lot([], [1]), "InvalidTie")):
            with self.assertRaises(ValueError) as caught:
                make()
            self.assertEqual(caught.exception.tag, tag)


class EqualTest(unittest.TestCase):
    def test_lots(self):
        lot = Lot(["x", "y"], [X_BELOW_Y, X_AT_MOST_1])
        self.assertTrue(lot == Lot(["y", "x"], (X_BELOW_Y, X_AT_MOST_1)))
        self.assertFalse(lot != Lot(["x", "y"], [X_BELOW_Y, X_AT_MOST_1]))
        others = [
            Lot(["x", "y"], [X_AT_MOST_1, X_BELOW_Y]), Lot(["x", "y"], [X_BELOW_Y]), Lot(["x", "y"]),
            Lot(["x", "y", "z"], [X_BELOW_Y, X_AT_MOST_1]), Lot(["x", "y"], [X_BELOW_Y, X_AT_MOST_1, X_AT_MOST_1]),
            Lot(["x", "y"], [((("x", (2, 1)), ("y", (-2, 1))), (0, 1)), X_AT_MOST_1]), Lot([]),
        ]
        for other in others + [None, True, 0, "", (), [], {}, lot.ties(), (lot.names(), lot.ties())]:
            self.assertFalse(lot == other)
            self.assertTrue(lot != other)
            self.assertFalse(other == lot)
        self.assertTrue(Lot([]) == Lot([]))
        self.assertFalse(Lot(["x"]) == Lot(["y"]))

    def test_equal_to_nothing_else(self):
        self.assertFalse(Lot(["x"]) == Step(["x"]))
        self.assertFalse(Step(["x"]) == Lot(["x"]))
        self.assertTrue(Lot([]) != Step([]))
        self.assertFalse(Lot(["x", "y"]) == Figure())
        self.assertFalse(Figure() == Lot(["x", "y"]))


class AnswerTest(unittest.TestCase):
    def test_example_of_the_document(self):
        lot = Lot.read(["x", "y"], "x <= 1/2*y + 1; y <= 1/2*x + 1")
        self.assertEqual([lot.stretch("x"), lot.solution(x=(9, 1))], [(None, (2, 1)), {"x": (2, 1), "y": (2, 1)}])

    def test_without_names(self):
        lot = Lot([])
        self.assertIs(lot.possible, True)
        self.assertEqual(lot.solution(), {})
        self.assertTrue(lot.holds({}))
        self.assertEqual((lot.closed(), lot.limited(), lot + lot, lot * lot), (lot, lot, lot, lot))
        self.assertTrue(lot <= lot)

    def test_possible(self):
        self.assertIs(Lot(["x"], [X_AT_MOST_1]).possible, True)
        self.assertIs(Lot(["x"], [X_AT_MOST_1, X_AT_LEAST_2]).possible, False)
        self.assertIs(Lot.read(["x"], "x <= 2; x >= 2").possible, True)
        self.assertIs(Lot.read(["x", "y", "z"], "x <= y - 1; y <= z - 1; z <= x + 1").possible, False)
        self.assertIs(Lot.read(["x", "y", "z"], "x <= y - 1; y <= z - 1; z <= x + 2").possible, True)

    def test_holds(self):
        lot = Lot.read(["x", "y"], "x <= y; y <= 1/2")
        self.assertIs(lot.holds({"y": (1, 2), "x": (1, 2)}), True)
        self.assertIs(lot.holds({"x": (1, 2), "y": (1, 3)}), False)
        self.assertIs(lot.holds({"x": (0, 1), "y": (2, 3)}), False)
        self.assertIs(lot.holds({"x": (0, 1)}), False)
        self.assertIs(lot.holds({"x": (0, 1), "y": (0, 1), "z": (0, 1)}), False)
        self.assertIs(Lot(["x"]).holds({"x": (5, 3)}), True)

    def test_stretch(self):
        lot = Lot.read(["x", "y", "z"], "x <= y; 2*y <= 7; x >= -1/3")
        self.assertEqual(lot.stretch("x"), ((-1, 3), (7, 2)))
        self.assertEqual(lot.stretch("y"), ((-1, 3), (7, 2)))
        self.assertEqual(lot.stretch("z"), (None, None))
        self.assertEqual(Lot.read(["x"], "x >= 3").stretch("x"), ((3, 1), None))
        self.assertEqual(Lot.read(["x"], "x = 3").stretch("x"), ((3, 1), (3, 1)))
        impossible = Lot.read(["x", "y"], "x <= 1; x >= 2")
        self.assertIsNone(impossible.stretch("x"))
        self.assertIsNone(impossible.stretch("y"))

    def test_shadow(self):
        lot = Lot.read(["x", "y", "z"], "x <= z; z <= y; y <= 5; z >= 1")
        self.assertEqual(lot.shadow("y", "x"), lot.shadow("x", "y").turned())
        self.assertEqual(lot.shadow("x", "y").rows(), [(0, 1, (5, 1)), (0, -1, (-1, 1)), (1, -1, (0, 1))])
        self.assertEqual(lot.shadow("y", "x").rows(), [(1, 0, (5, 1)), (-1, 1, (0, 1)), (-1, 0, (-1, 1))])
        self.assertEqual(Lot(["x", "y"]).shadow("x", "y"), Figure())
        self.assertEqual(Lot.read(["x", "y"], "x <= 0; x >= 1").shadow("x", "y"), Figure.nothing())

    def test_solution(self):
        lot = Lot.read(["x", "y"], "x + y >= 2; x <= 3; y <= 3")
        self.assertEqual(lot.solution(), {"x": (0, 1), "y": (2, 1)})
        self.assertEqual(list(lot.solution()), ["x", "y"])
        self.assertEqual(lot.solution(y=(5, 1)), {"x": (0, 1), "y": (3, 1)})
        self.assertEqual(lot.solution(y=(0, 1), x=(-7, 2)), {"x": (-1, 1), "y": (3, 1)})
        self.assertEqual(lot.solution(x=(5, 2), y=(1, 3)), {"x": (5, 2), "y": (1, 3)})
        self.assertEqual(Lot.read(["x'"], "x' >= 1").solution(**{"x'": (3, 2)}), {"x'": (3, 2)})
        self.assertEqual(Lot(["x"]).solution(), {"x": (0, 1)})

    def test_returned_dicts_are_new(self):
        lot = Lot(["x"])
        lot.solution().clear()
        self.assertEqual(lot.solution(), {"x": (0, 1)})

    def test_unknown_names(self):
        for lot in (Lot.read(["x", "y"], "x <= y"), Lot.read(["x", "y"], "x <= y; y <= x - 1")):
            for thing in ANYTHING + ["z", "x'", "X", "", ["x"], ("x", "y"), None, True]:
                asks = [
                    lot.stretch, lot.limited, lambda name: lot.shadow(name, "w"), lambda name: lot.shadow("x", name),
                    lambda name: lot.shadow(name, name), lambda name: lot.limited("x", name, "w"),
                ]
                for ask in asks:
                    with self.subTest(thing=thing), self.assertRaises(UnknownName) as caught:
                        ask(thing)
                    self.assertEqual(caught.exception.name, thing)
                    self.assertEqual(caught.exception.tag, "UnknownName")
            with self.assertRaises(UnknownName) as caught:
                lot.solution(y=(1, 1), w=(1, 1), a=(1, 1))
            self.assertEqual(caught.exception.name, "w")
            with self.assertRaises(SameName) as caught:
                lot.shadow("y", "y")
            self.assertEqual(caught.exception.name, "y")

    def test_impossible(self):
        for text in ("x <= 0; x >= 1", "x <= y - 1; y <= x", "x + y <= 1; x - y <= 1; x >= 2"):
            with self.assertRaises(Impossible):
                Lot.read(["x", "y"], text).solution(x=(1, 1))


if __name__ == "__main__":
    unittest.main()
