"""Promises 24 to 26 and 71: comparing, joining and taking together lots."""

import itertools
import random
import unittest

from tests import plain_lots
from tests.plain_lots import bare, kinds, many_lots
from tiespan.errors import NamesDiffer
from tiespan.figures import Figure
from tiespan.lots import Lot

NAMES = ["a", "b", "c", "d", "e", "f"]
IMPOSSIBLE = "x <= 0; x >= 1"


def lots_of_three():
    """Returns lots of the names x, y and z of all kinds, and others."""
    names = ["x", "y", "z"]
    return [lot for lot in kinds().values() if lot.names() == names] + many_lots(61, 30, 3, 6)


def lots_of_two():
    names = ["x", "y"]
    return [lot for lot in kinds().values() if lot.names() == names] + many_lots(62, 30, 2, 5)


def large_lots(seed, count, many, most):
    """Returns lots of the first of six names, every fourth one without a solution."""
    dice = random.Random(seed)
    names = NAMES[:many]
    lots = []
    for at in range(count):
        ties = [plain_lots.some_tie(dice, names, {name: 0 for name in names}) for turn in range(most)]
        ties = [tie for tie in ties if tie[1][0] >= 0]
        if at % 4 == 3:
            ties += Lot.read(names, "a <= b; b <= c; c <= a - 1/2").ties()
        lots.append(Lot(names, ties))
    return lots


def differs(one, other):
    """Returns the operations that raise NamesDiffer for two lots, by their signs."""
    found = []
    for sign, do in (("+", lambda: one + other), ("*", lambda: one * other), ("<=", lambda: one <= other)):
        try:
            do()
        except NamesDiffer as error:
            found.append(sign if error.tag == "NamesDiffer" else "")
    return found


class NamesTest(unittest.TestCase):
    def test_names_differ(self):
        lots = [Lot([]), Lot(["x"]), Lot(["y"]), Lot(["x'"]), Lot(["x", "y"]), Lot.read(["x"], IMPOSSIBLE)]
        for one, other in itertools.permutations(lots, 2):
            same = one.names() == other.names()
            self.assertEqual(differs(one, other), [] if same else ["+", "*", "<="])

    def test_order_of_names_does_not_count(self):
        one, other = Lot.read(["x", "y"], "x <= y"), Lot.read(["y", "x"], "x <= y")
        self.assertEqual(differs(one, other), [])


class ProductTest(unittest.TestCase):
    def test_ties_of_both(self):
        one = Lot.read(["x", "y"], "x <= y; x <= 1")
        other = Lot.read(["x", "y"], "y <= 3; x <= y")
        self.assertEqual((one * other).text(), "x - y <= 0; x <= 1; y <= 3; x - y <= 0")
        self.assertEqual((other * one).text(), "y <= 3; x - y <= 0; x - y <= 0; x <= 1")
        self.assertEqual((one * Lot(["x", "y"])), one)
        self.assertEqual((one.text(), other.text()), ("x - y <= 0; x <= 1", "y <= 3; x - y <= 0"))

    def test_ties_are_not_reduced(self):
        tie = ((("x", (2, 1)),), (4, 1))
        self.assertEqual((Lot(["x"], [tie]) * Lot(["x"], [tie])).ties(), [tie, tie])


class LessTest(unittest.TestCase):
    def test_few(self):
        half = Lot.read(["x", "y"], "x <= 0")
        quarter = Lot.read(["x", "y"], "x <= 0; y <= 0")
        self.assertIs(quarter <= half, True)
        self.assertIs(half <= quarter, False)
        self.assertIs(half <= Lot(["x", "y"]), True)
        self.assertIs(Lot(["x", "y"]) <= half, False)
        nothing = Lot.read(["x", "y"], IMPOSSIBLE)
        self.assertEqual((nothing <= half, half <= nothing, nothing <= nothing), (True, False, True))
        self.assertIs(Lot.read(["x", "y"], "x <= -1; y <= -1") <= Lot.read(["x", "y"], "x + 2*y <= -3"), True)
        self.assertIs(Lot.read(["x", "y"], "x <= -1; y <= -1") <= Lot.read(["x", "y"], "1/3*x + 2/3*y <= -4/3"), False)
        self.assertIs(Lot.read(["x", "y"], "x <= -1; y <= -1") <= Lot.read(["x", "y"], "1/3*x + 2/3*y <= -1"), True)

    def test_against_elimination(self):
        found = []
        for lots in (lots_of_two(), lots_of_three()):
            for one, other in zip(lots, lots[1:] + lots[:1]):
                for first, second in ((one, other), (one * other, other), (one, one * other), (one, one + other)):
                    ties = bare(first.ties())
                    less = all(plain_lots.follows(ties, tie) for tie in bare(second.ties()))
                    self.assertIs(first <= second, less, (first.text(), second.text()))
                    found.append(less)
        self.assertGreater(min(found.count(True), found.count(False)), 50)


class RoundTest(unittest.TestCase):
    def test_two_points(self):
        one, other = Lot.read(["x", "y"], "x = 0; y = 0"), Lot.read(["x", "y"], "x = 2; y = 1")
        self.assertEqual((one + other).text(), "x <= 2; -x <= 0; y <= 1; -y <= 0; -x + 2*y <= 0; x - 2*y <= 0")

    def test_line_and_point_have_a_strip(self):
        line, point = Lot.read(["x", "y"], "y = 0"), Lot.read(["x", "y"], "x = 0; y = 1")
        self.assertEqual((line + point).text(), "y <= 1; -y <= 0")
        self.assertEqual((point + line).text(), "y <= 1; -y <= 0")
        slanting = Lot.read(["x", "y"], "x = y") + Lot.read(["x", "y"], "x = 0; y = 2")
        self.assertEqual(slanting.text(), "-x + y <= 2; x - y <= 0")

    def test_without_a_solution(self):
        nothing = Lot.read(["y", "x"], IMPOSSIBLE)
        for lot in lots_of_two():
            self.assertEqual(nothing + lot, lot.closed())
            self.assertEqual(lot + nothing, lot.closed())
        self.assertEqual((nothing + nothing).text(), "x <= 0; -x <= -1")
        self.assertEqual((nothing + nothing).names(), ["x", "y"])

    def test_one_name(self):
        one, other = Lot.read(["x"], "x <= 1; x >= 0"), Lot.read(["x"], "x >= 3; x <= 7/2")
        self.assertEqual((one + other).text(), "x <= 7/2; -x <= 0")
        self.assertEqual((one + Lot.read(["x"], "x >= 3")).text(), "-x <= 0")
        self.assertEqual((one + Lot.read(["x"], "x <= 1/3")).text(), "x <= 1")
        self.assertEqual((one + Lot(["x"])).text(), "")

    def test_against_elimination(self):
        for lots in (lots_of_two(), lots_of_three()):
            for one, other in zip(lots, lots[1:] + lots[:1]):
                found = one + other
                self.assertEqual(found.ties(), plain_lots.joined(one.names(), bare(one.ties()), bare(other.ties())))
                self.assertEqual(found.closed(), found)
                self.assertEqual(found, other + one)
                self.assertTrue(one <= found and other <= found)

    def test_shadows_are_the_least_figures(self):
        for one, other in zip(lots_of_three(), lots_of_three()[1:]):
            for first, second in itertools.permutations(one.names(), 2):
                figure = one.shadow(first, second) + other.shadow(first, second)
                self.assertEqual((one + other).shadow(first, second), figure)
        self.assertIsInstance(figure, Figure)


class GroupingTest(unittest.TestCase):
    def test_rounds_in_any_order_and_grouping(self):
        lots = lots_of_three()
        dice = random.Random(71)
        for turn in range(40):
            one, two, three = [dice.choice(lots) for at in range(3)]
            found = one + two + three
            for lot in (one + (two + three), three + (two + one), (three + one) + two, one + two + three + two):
                self.assertEqual(lot, found)
            self.assertTrue(one <= found and two <= found and three <= found)

    def test_products_in_any_order_and_grouping(self):
        lots = [lot for lot in lots_of_three() if len(lot) < 4]
        dice = random.Random(72)
        for turn in range(40):
            one, two, three = [dice.choice(lots) for at in range(3)]
            found = (one * two * three).closed()
            for lot in (one * (two * three), three * (two * one), (three * one) * two, one.closed() * (two * three).closed()):
                self.assertEqual(lot.closed(), found)
            self.assertTrue(found <= one and found <= two and found <= three)

    def test_less_agrees(self):
        lots = lots_of_two()
        for one, other in zip(lots, lots[::-1]):
            less = one <= other
            self.assertIs(less, (one + other) == other.closed())
            self.assertIs(less, (one * other).closed() == one.closed())
            self.assertIs(less, one.closed() <= other)
            self.assertIs(less and other <= one, one.closed() == other.closed())


class LargeTest(unittest.TestCase):
    def check(self, lots):
        for one, other in zip(lots, lots[1:] + lots[:1]):
            closed = one.closed()
            self.assertEqual(closed.closed(), closed)
            self.assertTrue(closed <= one and one <= closed)
            found = one + other
            self.assertTrue(one <= found and other <= found)
            self.assertEqual(found.closed(), found)
            self.assertEqual(found, other.closed() + closed)
            for pair in itertools.combinations(one.names(), 2):
                self.assertEqual(found.shadow(*pair), one.shadow(*pair) + other.shadow(*pair))
            if not one.possible:
                self.assertEqual(closed.text(), "a <= 0; -a <= -1")
                self.assertEqual(found, other.closed())

    def test_five_names(self):
        self.check(large_lots(81, 16, 5, 10))

    def test_six_names(self):
        self.check(large_lots(82, 12, 6, 14))

    def test_rounds_of_rounds(self):
        lots = large_lots(83, 8, 6, 9)
        found = lots[0] + lots[1]
        for lot in lots[2:]:
            before, found = found, found + lot
            self.assertTrue(before <= found and lot <= found)
        pairs = [lots[at] + lots[at + 1] for at in range(0, 8, 2)]
        self.assertEqual((pairs[0] + pairs[1]) + (pairs[2] + pairs[3]), found)


if __name__ == "__main__":
    unittest.main()
