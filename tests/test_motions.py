"""Promises 34 to 37, 66 and 80: steps, what they do one behind the other, and to where they lead."""

import random
import unittest
from fractions import Fraction

from tests import plain_lots
from tests.plain import pair
from tests.plain_lots import ANYTHING, bare
from tests.test_lots import NO_NAMES, NO_TIES
from tiespan.errors import InvalidName, InvalidTie, InvalidTimes, NamesDiffer
from tiespan.figures import Figure
from tiespan.lots import Lot
from tiespan.motions import Step
from tiespan.ties import read_ties

NEW_X = ((("x'", (1, 1)),), (1, 1))
DOUBLE = Step(["x"], read_ties("x' = 2*x + 1"))


def step(names, text):
    """Returns the step with the ties of a text."""
    return Step(names, Lot.read(names + [name + "'" for name in names], text).ties())


def some_steps(seed, count, names, most):
    dice = random.Random(seed)
    both = names + [name + "'" for name in names]
    return [Step(names, plain_lots.some_ties(dice, both, most)) for turn in range(count)]


def some_lots(seed, count, names, most):
    dice = random.Random(seed)
    return [Lot(names, plain_lots.some_ties(dice, names, most)) for turn in range(count)]


KINDS = {
    "no ties": (["x", "y"], ""),
    "stays": (["x", "y"], "x = x'; y = y'"),
    "doubles": (["x"], "x' = 2*x + 1"),
    "exchanges": (["x", "y"], "x' = y; y' = x"),
    "forgets": (["x", "y"], "x' = 1/2"),
    "any from here to there": (["x", "y"], "x' >= x; x' <= y; y' = y"),
    "checks": (["x", "y"], "x = x'; y = y'; x <= y"),
    "never": (["x", "y"], "x <= y - 1; y <= x"),
    "never behind": (["x"], "x' <= x; x' >= x + 1"),
    "reaches a point": (["x", "y"], "x' = 1; y' = 2"),
    "leaves the half": (["x"], "x' = 1/2*x; x >= 0"),
}
STEPS_OF_ONE = [step(*row) for row in KINDS.values() if row[0] == ["x"]] + some_steps(121, 25, ["x"], 4)
STEPS_OF_TWO = [step(*row) for row in KINDS.values() if row[0] == ["x", "y"]] + some_steps(122, 25, ["x", "y"], 5)


class HeldTest(unittest.TestCase):
    def test_names_and_ties(self):
        ties = read_ties("x' <= y") + [((("x", (2, 1)), ("y'", (4, 1))), (6, 1))]
        found = Step(["y", "x"], ties)
        self.assertEqual((found.names(), found.ties(), len(found)), (["x", "y"], ties, 2))
        self.assertEqual(found.lot(), Lot(["x", "x'", "y", "y'"], ties))
        self.assertEqual(found.lot().names(), ["x", "x'", "y", "y'"])
        self.assertEqual((Step(["x"]).ties(), len(Step(["x"]))), ([], 0))
        self.assertEqual((Step.MOST, found.MOST), (3, 3))

    def test_lists(self):
        names, ties = ["x", "y"], read_ties("x <= y'")
        found = Step(names, ties)
        names.append("z")
        ties.clear()
        found.names().append("z")
        found.ties().clear()
        self.assertEqual((found.names(), found.ties()), (["x", "y"], read_ties("x <= y'")))
        self.assertEqual(Step(("y", "x"), tuple(read_ties("x <= y'"))), found)

    def test_repr(self):
        self.assertEqual(repr(Step(["x"])), "Step(1 names, 0 ties)")
        self.assertEqual(repr(Step(["x", "y"], read_ties("x = y'") + [NEW_X])), "Step(2 names, 3 ties)")

    def test_equal(self):
        ties = read_ties("x = y'")
        one = Step(["x", "y"], ties)
        self.assertTrue(one == Step(["y", "x"], ties))
        self.assertFalse(one != Step(("x", "y"), tuple(ties)))
        double = [((("x", (2, 1)), ("y'", (-2, 1))), (0, 1)), ties[1]]
        others = [Step(["x", "y"], ties[::-1]), Step(["x", "y"], ties[:1]), Step(["x", "y", "z"], ties), Step(["x", "y"]),
                  Step(["x", "y"], double), Step(["x", "y"], ties + ties)]
        for other in others + [one.lot(), one.ties(), None, True, 2, "", (), [], {}, Figure()]:
            self.assertFalse(one == other)
            self.assertTrue(one != other)
            self.assertFalse(other == one)

    def test_keywords(self):
        self.assertEqual(Step(ties=[NEW_X], names=["x"]), Step(["x"], [NEW_X]))
        self.assertEqual(Step.stay(names=["x"]), Step.stay(["x"]))
        self.assertEqual(DOUBLE.repeated(times=2), DOUBLE * DOUBLE)
        self.assertIs(DOUBLE.allows(after={"x": (3, 1)}, before={"x": (1, 1)}), True)
        self.assertEqual(DOUBLE.moved(lot=Lot.read(["x"], "x = 1")).text(), "x <= 3; -x <= -3")


class InvalidTest(unittest.TestCase):
    def refused(self, names, ties=()):
        with self.assertRaises(InvalidName) as caught:
            Step(names, ties)
        with self.assertRaises(InvalidName) as again:
            Step.stay(names)
        self.assertEqual(again.exception.name, caught.exception.name)
        return caught.exception.name

    def test_names(self):
        for name in NO_NAMES + ["x'", "y'", "abcdef'"]:
            self.assertEqual(self.refused(["x", name, "X"]), name)
            self.assertEqual(self.refused([name]), name)
        self.assertEqual(self.refused(["x", "y", "x", "Z"]), "x")
        self.assertEqual(self.refused(["a", "b", "c", "d"]), "d")
        self.assertEqual(self.refused(["a", "b", "c", "a"]), "a")
        self.assertEqual(self.refused(["a", "b", "c", "d", "X"]), "d")
        self.assertEqual(self.refused(["a", "b", "X", "c", "d"]), "X")
        self.assertEqual(self.refused(("a", "b", "c'", "d", "e")), "c'")
        self.assertEqual(self.refused(["X"], [None]), "X")
        self.assertEqual(len(Step(["a", "b", "c"]).names()), 3)

    def test_any_value_as_a_tie(self):
        for thing in [thing for thing in NO_TIES if thing != ((("x'", (1, 1)),), (1, 1))] + ANYTHING:
            with self.subTest(thing=thing), self.assertRaises(InvalidTie) as caught:
                Step(["x", "y"], [NEW_X, thing, None])
            self.assertEqual(caught.exception.at, 1)
        for text in ("z <= 1", "z' <= 1", "x <= z'", "x' <= z"):
            with self.assertRaises(InvalidTie) as caught:
                Step(["x", "y"], [NEW_X, NEW_X] + read_ties(text))
            self.assertEqual(caught.exception.at, 2)

    def test_times(self):
        for times in [-1, 9, 10 ** 29, True, False, None, "1", "", (1,), [1], (1, 1), []]:
            with self.subTest(times=times), self.assertRaises(InvalidTimes) as caught:
                DOUBLE.repeated(times)
            self.assertEqual((caught.exception.given, caught.exception.tag), (times, "InvalidTimes"))

    def test_names_differ(self):
        for other in (Step(["y"]), Step(["x", "y"]), Step.stay(["xx"])):
            with self.assertRaises(NamesDiffer):
                DOUBLE * other
            with self.assertRaises(NamesDiffer):
                other * DOUBLE
        for lot in (Lot([]), Lot(["y"]), Lot(["x'"]), Lot(["x", "x'"]), Lot(["x", "y"]), DOUBLE.lot()):
            with self.assertRaises(NamesDiffer) as caught:
                DOUBLE.moved(lot)
            self.assertEqual(caught.exception.tag, "NamesDiffer")
        never = step(["x"], "x <= 0; x >= 1")
        with self.assertRaises(NamesDiffer):
            never * Step(["y"])
        with self.assertRaises(NamesDiffer):
            never.moved(Lot(["y"]))


class FewTest(unittest.TestCase):
    def test_allows(self):
        one = step(["x", "y"], "x' <= 3*y; y' = y; x <= 1")
        self.assertIs(one.allows({"x": (1, 1), "y": (1, 2)}, {"y": (1, 2), "x": (3, 2)}), True)
        self.assertIs(one.allows({"x": (1, 1), "y": (1, 2)}, {"x": (8, 5), "y": (1, 2)}), False)
        self.assertIs(one.allows({"x": (1, 1), "y": (1, 2)}, {"x": (1, 1), "y": (1, 3)}), False)
        self.assertIs(one.allows({"x": (2, 1), "y": (1, 2)}, {"x": (1, 1), "y": (1, 2)}), False)
        self.assertIs(DOUBLE.allows({"x": (1, 1)}, {"x": (3, 1)}), True)
        self.assertIs(DOUBLE.allows({"x": (3, 1)}, {"x": (1, 1)}), False)
        for before, after in (({}, {"x": (3, 1)}), ({"x": (1, 1)}, {}), ({"x": (1, 1), "y": (1, 1)}, {"x": (3, 1)}),
                              ({"x": (1, 1)}, {"x": (3, 1), "x'": (3, 1)}), ({"x": (1, 1)}, {"x'": (3, 1)})):
            self.assertIs(DOUBLE.allows(before, after), False)
        values = {"x": (1, 1)}
        DOUBLE.allows(values, values)
        self.assertEqual(values, {"x": (1, 1)})

    def test_allows_is_what_the_lot_holds(self):
        dice = random.Random(1)
        for one in STEPS_OF_TWO:
            for turn in range(10):
                before, after = [{name: (dice.randint(-3, 3), 1) for name in one.names()} for side in range(2)]
                both = {**before, **{name + "'": number for name, number in after.items()}}
                kept = plain_lots.possible(
                    bare(one.ties()) + [tie for name in both for tie in plain_lots.at_value({name: 1}, both[name][0])])
                self.assertIs(one.allows(before, after), kept)

    def test_stay(self):
        found = Step.stay(["y", "x"])
        self.assertEqual(found.names(), ["x", "y"])
        self.assertEqual(found.lot().text(), "x - x' <= 0; -x + x' <= 0; y - y' <= 0; -y + y' <= 0")
        self.assertEqual(found.ties()[1], ((("x", (-1, 1)), ("x'", (1, 1))), (0, 1)))
        self.assertIs(found.allows({"x": (1, 1), "y": (2, 1)}, {"x": (1, 1), "y": (2, 1)}), True)
        self.assertIs(found.allows({"x": (1, 1), "y": (2, 1)}, {"x": (2, 1), "y": (1, 1)}), False)

    def test_closed(self):
        one = step(["x"], "x' <= x; x <= 3; x' <= 7; 2*x' <= 2*x")
        self.assertEqual(one.closed().lot().text(), "x <= 3; x' <= 3; -x + x' <= 0")
        self.assertEqual(one.closed().names(), ["x"])
        for one in STEPS_OF_ONE + STEPS_OF_TWO:
            self.assertEqual(one.closed().ties(), plain_lots.limited(bare(one.ties()), one.lot().names()))
            self.assertEqual(one.closed().ties(), one.lot().closed().ties())

    def test_back(self):
        one = Step(["x", "y"], [((("x", (2, 1)), ("y'", (4, 1))), (6, 1)), NEW_X, ((("x'", (1, 1)), ("y", (-1, 1))), (0, 1))])
        self.assertEqual(one.back().ties(), [
            ((("x'", (2, 1)), ("y", (4, 1))), (6, 1)), ((("x", (1, 1)),), (1, 1)), ((("x", (1, 1)), ("y'", (-1, 1))), (0, 1)),
        ])
        self.assertEqual(DOUBLE.back().lot().text(), "x - 2*x' <= 1; -x + 2*x' <= -1")
        for one in STEPS_OF_TWO:
            self.assertEqual(one.back().back(), one)
            self.assertEqual(one.back().names(), one.names())
            values = {"x": (1, 1), "y": (-1, 1)}, {"x": (0, 1), "y": (2, 1)}
            self.assertIs(one.allows(*values), one.back().allows(*values[::-1]))

    def test_product(self):
        self.assertEqual((DOUBLE * DOUBLE).lot().text(), "-4*x + x' <= 3; 4*x - x' <= -3")
        half = step(["x"], "2*x' = x")
        self.assertEqual((DOUBLE * half).lot().text(), "-x + x' <= 1/2; x - x' <= -1/2")
        self.assertEqual((half * DOUBLE).lot().text(), "-x + x' <= 1; x - x' <= -1")
        self.assertEqual((half * step(["x"], "x <= -1; x >= 0")).lot().text(), "x <= 0; -x <= -1")

    def test_moved(self):
        start = Lot.read(["x"], "x >= 0; x <= 1/2")
        self.assertEqual(DOUBLE.moved(start).text(), "x <= 2; -x <= -1")
        self.assertEqual(DOUBLE.moved(start).names(), ["x"])
        self.assertEqual(DOUBLE.moved(Lot.read(["x"], "x <= 0; x >= 1")).text(), "x <= 0; -x <= -1")
        self.assertEqual(step(["x"], "x >= 1; x' = 0").moved(start).text(), "x <= 0; -x <= -1")
        self.assertEqual(Step(["x", "y"]).moved(Lot(["x", "y"])), Lot(["x", "y"]))
        both = step(["x", "y"], "x' = y; y' = 2*x")
        self.assertEqual(both.moved(Lot.read(["x", "y"], "x - y <= 1; x = 3")).text(), "-x <= -2; y <= 6; -y <= -6")


class AgainstEliminationTest(unittest.TestCase):
    def test_product(self):
        for steps in (STEPS_OF_ONE, STEPS_OF_TWO):
            for one, other in zip(steps, steps[3:] + steps[:3]):
                found = one * other
                expected = plain_lots.composed(one.names(), bare(one.ties()), bare(other.ties()))
                self.assertEqual(found.ties(), expected, (one.lot().text(), other.lot().text()))
                self.assertEqual((found.names(), found.closed()), (one.names(), found))

    def test_moved(self):
        for steps in (STEPS_OF_ONE, STEPS_OF_TWO):
            names = steps[0].names()
            for one, lot in zip(steps, some_lots(123, len(steps), names, 3)):
                found = one.moved(lot)
                expected = plain_lots.moved(names, bare(one.ties()), bare(lot.ties()))
                self.assertEqual(found.ties(), expected, (one.lot().text(), lot.text()))
                self.assertEqual((found.names(), found.closed()), (names, found))

    def test_points_of_moved_come_from_solutions(self):
        dice = random.Random(2)
        found = []
        for one, lot in zip(STEPS_OF_TWO, some_lots(124, len(STEPS_OF_TWO), ["x", "y"], 3)):
            for turn in range(5):
                after = {name: Fraction(dice.randint(-4, 4), dice.randint(1, 2)) for name in ("x", "y")}
                ties = bare(one.ties()) + bare(lot.ties())
                for name, number in after.items():
                    ties = ties + plain_lots.at_value({name + "'": 1}, number)
                led = plain_lots.possible(ties)
                self.assertIs(one.moved(lot).holds({name: pair(number) for name, number in after.items()}), led)
                found.append(led)
        self.assertGreater(min(found.count(True), found.count(False)), 30)


class GroupingTest(unittest.TestCase):
    def test_products(self):
        for steps in (STEPS_OF_ONE, STEPS_OF_TWO):
            for one, two, three in zip(steps, steps[1:], steps[2:]):
                found = one * two * three
                self.assertEqual(found, one * (two * three))
                self.assertEqual(found, one.closed() * two.closed() * three.closed())
                self.assertEqual(found.back().closed(), three.back() * two.back() * one.back())

    def test_stay(self):
        for one in STEPS_OF_ONE + STEPS_OF_TWO:
            stay = Step.stay(one.names())
            self.assertEqual(stay * one, one.closed())
            self.assertEqual(one * stay, one.closed())
            self.assertEqual(stay.back().closed(), stay.closed())

    def test_repeated(self):
        for one in STEPS_OF_ONE + STEPS_OF_TWO[:20]:
            self.assertEqual(one.repeated(0), Step.stay(one.names()))
            self.assertEqual(one.repeated(1), one.closed())
            found = one.closed()
            for times in range(2, 9):
                found = found * one
                self.assertEqual(one.repeated(times), found)
            self.assertEqual(one.repeated(3) * one.repeated(5), found)
            self.assertEqual(one.repeated(2).repeated(4), found)
            self.assertEqual(one.back().repeated(8), found.back().closed())

    def test_moved(self):
        for steps in (STEPS_OF_ONE, STEPS_OF_TWO):
            lots = some_lots(125, len(steps), steps[0].names(), 3)
            for one, other, lot in zip(steps, steps[1:], lots):
                self.assertEqual((one * other).moved(lot), other.moved(one.moved(lot)))
                self.assertEqual(one.repeated(3).moved(lot), one.moved(one.moved(one.moved(lot))))
                self.assertEqual(one.repeated(0).moved(lot), lot.closed())
                self.assertEqual(Step.stay(one.names()).moved(lot), lot.closed())
                self.assertEqual(one.moved(Lot(one.names())).possible, one.lot().possible)


class MultiplyTest(unittest.TestCase):
    """Steps that multiply each value and add a number have a plain rule for any number of times."""

    def pieces(self, rates, numbers):
        names = sorted(rates)
        ties = []
        for name in names:
            ties += [(((name, pair(-rates[name])), (name + "'", (1, 1))), pair(numbers[name])),
                     (((name, pair(rates[name])), (name + "'", (-1, 1))), pair(-numbers[name]))]
        return Step(names, ties)

    def test_repeated_up_to_eight_times(self):
        dice = random.Random(3)
        for turn in range(12):
            names = ["x", "y", "z"][:dice.randint(1, 3)]
            rates = {name: Fraction(dice.choice([-3, -2, -1, 1, 2, 3, 5]), dice.randint(1, 3)) for name in names}
            numbers = {name: Fraction(dice.randint(-4, 4), dice.randint(1, 3)) for name in names}
            one = self.pieces(rates, numbers)
            rate, number = {name: Fraction(1) for name in names}, {name: Fraction(0) for name in names}
            start = {name: pair(Fraction(dice.randint(-5, 5), 3)) for name in names}
            lot = Lot(names, [tie for name in names for tie in (
                (((name, (1, 1)),), start[name]), (((name, (-1, 1)),), (-start[name][0], start[name][1])))])
            for times in range(9):
                ends = {name: pair(rate[name] * Fraction(*start[name]) + number[name]) for name in names}
                found = one.repeated(times)
                self.assertEqual(found.closed(), self.pieces(rate, number).closed())
                self.assertEqual(found.moved(lot).solution(), ends)
                self.assertEqual(found.back().moved(found.moved(lot)), lot.closed())
                self.assertIs(found.allows(start, ends), True)
                rate = {name: rate[name] * rates[name] for name in names}
                number = {name: number[name] * rates[name] + numbers[name] for name in names}

    def test_three_names_that_are_exchanged(self):
        turn = step(["x", "y", "z"], "x' = y; y' = z; z' = 2*x + 1")
        self.assertEqual(turn.repeated(3).lot().closed(), step(
            ["x", "y", "z"], "x' = 2*x + 1; y' = 2*y + 1; z' = 2*z + 1").lot().closed())
        self.assertEqual(turn.repeated(6), turn.repeated(3) * turn.repeated(3))
        self.assertEqual(turn.repeated(8).back().closed(), turn.back().repeated(8))

    def test_loose_steps_of_three_names(self):
        loose = step(["x", "y", "z"], (
            "x' <= 1/2*y + 1; x' >= x - 1; y' <= 2/3*z; z' <= 3/2*x + 1; y' >= y; z' >= -5; x' + y' <= 7; z + y' <= 4"))
        found = loose.closed()
        for times in range(2, 9):
            found = found * loose
            self.assertEqual(found, loose.repeated(times))
        self.assertEqual(loose.repeated(8).closed(), found)


if __name__ == "__main__":
    unittest.main()
