"""Promise 76, and large calls of all sorts: what they return is shown by certificates and solutions, by plain sums."""

import itertools
import random
import unittest
from fractions import Fraction
from math import isqrt

from tests.plain import pair
from tests.test_certificates import plainly_derives, plainly_refutes
from tiespan.certificates import derive, refute
from tiespan.errors import NotImplied
from tiespan.layouts import Layout, granted
from tiespan.lots import Lot
from tiespan.motions import Step

NAMES = ["a", "b", "c", "d", "e", "f"]
MOST = 10 ** 30 - 1


def number(dice, most=MOST):
    return pair(Fraction(dice.randint(1, most) * dice.choice((-1, 1)), dice.randint(1, most)))


def ties_around(dice, names, many, most=MOST):
    """Returns ties that all hold for some values, with numbers of many digits; most have two names."""
    start = {name: Fraction(dice.randint(-9, 9)) for name in names}
    ties = []
    for turn in range(many):
        chosen = sorted(dice.sample(names, dice.choice((1, 2, 2, 2, 2))))
        terms = tuple((name, number(dice, most)) for name in chosen)
        at = sum(Fraction(*rate) * start[name] for name, rate in terms)
        ties.append((terms, (Fraction(at) + Fraction(dice.randint(0, 99), 7)).limit_denominator(most)))
    good = [(terms, pair(bound)) for terms, bound in ties
            if sum(Fraction(*rate) * start[name] for name, rate in terms) <= bound]
    return good


def round_ties(dice, pairs, many):
    """Returns ties of pairs of names that lie around a circle, so that most of them count."""
    ties = []
    for one, other in pairs:
        for turn in range(many):
            a, b = dice.randint(-MOST, MOST), dice.randint(-MOST, MOST)
            ties.append((((one, (a, 1)), (other, (b, 1))), (isqrt(a * a + b * b), 1)))
    return ties


def level(name, sign, bound):
    return ((name, (sign, 1)),), bound


def below(name, value):
    return level(name, 1, value)


def above(name, value):
    return level(name, -1, (-value[0], value[1]))


class LargeTest(unittest.TestCase):
    def check_end(self, lot, name, sign, end):
        """Shows that an end of a stretch is one: nothing lies beyond, and it is reached."""
        tie = level(name, sign, (sign * end[0], end[1]))
        paper = derive(lot, tie)
        self.assertTrue(plainly_derives(lot.ties(), tie, paper))
        self.assertLessEqual(len(paper), len(lot.names()))
        answer = (lot * Lot(lot.names(), [below(name, end), above(name, end)])).solution()
        self.assertTrue(lot.holds(answer))
        self.assertEqual(answer[name], end)

    def check_figure(self, lot, one, other, corners):
        """Shows that a shadow is one: its rows follow, and some of its corners come from solutions."""
        figure = lot.shadow(one, other)
        for a, b, c in figure.rows():
            terms = tuple((name, (rate, 1)) for name, rate in sorted([(one, a), (other, b)]) if rate)
            self.assertTrue(plainly_derives(lot.ties(), (terms, c), derive(lot, (terms, c))))
            self.assertEqual(figure.greatest(a, b), c)
        for x, y in figure.corners()[:corners]:
            fixed = Lot(lot.names(), [below(one, x), above(one, x), below(other, y), above(other, y)])
            answer = (lot * fixed).solution()
            self.assertTrue(lot.holds(answer))
            self.assertEqual((answer[one], answer[other]), (x, y))
        return figure

    def test_sixty_ties_of_thirty_digits(self):
        dice = random.Random(1)
        for turn in range(2):
            lot = Lot(NAMES, ties_around(dice, NAMES, 60))
            self.assertGreater(len(lot), 30)
            for name in NAMES[turn::2]:
                for sign, end in zip((-1, 1), lot.stretch(name)):
                    if end is not None:
                        self.check_end(lot, name, sign, end)
            targets = {name: number(dice) for name in NAMES}
            self.assertTrue(lot.holds(lot.solution(**targets)))
            self.assertGreater(len(self.check_figure(lot, "a", "f", 4)), 2)

    def test_thirty_digits_that_many_ties_meet(self):
        dice = random.Random(2)
        chain = list(zip(NAMES, NAMES[1:]))
        lot = Lot(NAMES, round_ties(dice, chain, 12))
        self.assertEqual(len(lot), 60)
        self.assertGreater(len(self.check_figure(lot, "a", "b", 3)), 5)
        self.check_figure(lot, "a", "c", 3)
        self.check_end(lot, "f", 1, lot.stretch("f")[1])
        two = Lot(["a", "f"], round_ties(dice, [("a", "f")], 60))
        self.assertGreater(len(self.check_figure(two, "f", "a", 60)), 30)

    def test_derive_at_the_edge(self):
        dice = random.Random(3)
        lot = Lot(NAMES, round_ties(dice, list(itertools.combinations(NAMES, 2)), 4))
        for pairs in (("a", "d"), ("c", "f")):
            terms = tuple((name, number(dice)) for name in pairs)
            [(wish, top)] = Layout(lot, (terms, (10 ** 40, 1))).reached()
            self.assertTrue(plainly_derives(lot.ties(), (terms, top), derive(lot, (terms, top))))
            with self.assertRaises(NotImplied) as caught:
                derive(lot, (terms, pair(Fraction(*top) - Fraction(1, 10 ** 50))))
            self.assertTrue(lot.holds(caught.exception.answer))

    def test_impossible_ties_of_thirty_digits(self):
        dice = random.Random(4)
        for turn in range(4):
            ties = ties_around(dice, NAMES, 58)
            lot = Lot(NAMES, ties)
            low, top = lot.stretch("c")
            end, sign = (top, -1) if top is not None else (low, 1)
            beyond = (sign * end[0] - end[1], end[1])
            lot = Lot(NAMES, ties + [((("c", (sign, 1)),), pair(Fraction(*beyond)))])
            self.assertFalse(lot.possible)
            paper = refute(lot)
            self.assertTrue(plainly_refutes(lot.ties(), paper))
            self.assertLessEqual(len(paper), 7)
            self.assertEqual(lot.closed().text(), "a <= 0; -a <= -1")

    def test_closed_lots_of_closed_lots(self):
        dice = random.Random(5)
        for ties in (ties_around(dice, NAMES, 60), round_ties(dice, list(itertools.combinations(NAMES, 2)), 4),
                     ties_around(dice, NAMES, 60, 9), round_ties(dice, list(zip(NAMES, NAMES[1:])), 12)):
            lot = Lot(NAMES, ties)
            closed = lot.closed()
            self.assertGreater(len(closed), 40)
            self.assertEqual(closed.closed().closed(), closed)
            self.assertTrue(closed <= lot and lot <= closed)
            for tie in dice.sample(closed.ties(), 8):
                self.assertTrue(plainly_derives(lot.ties(), tie, derive(lot, tie)))
            for tie in dice.sample(lot.ties(), 4):
                self.assertTrue(plainly_derives(closed.ties(), tie, derive(closed, tie)))

    def test_rounds_of_rounds(self):
        dice = random.Random(6)
        for most in (9, 10 ** 6, MOST):
            lots = [Lot(NAMES, ties_around(dice, NAMES, 40, most)) for turn in range(4)]
            found = (lots[0] + lots[1]) + (lots[2] + lots[3])
            self.assertEqual(((lots[3] + lots[1]) + lots[0]) + lots[2], found)
            self.assertTrue(all([lot <= found for lot in lots]))

    def test_layouts(self):
        dice = random.Random(7)
        for many in (10, 60):
            lot = Lot(NAMES, ties_around(dice, NAMES, many))
            wishes = []
            for turn in range(8):
                one, other = sorted(dice.sample(NAMES, 2))
                wishes.append((((one, number(dice)), (other, number(dice))), number(dice)))
            values = granted(lot, wishes)
            answer = Layout(lot, *wishes).solution()
            self.assertTrue(lot.holds(answer))
            for (terms, target), value in zip(wishes, values):
                self.assertEqual(pair(sum(Fraction(*rate) * Fraction(*answer[name]) for name, rate in terms)), value)

    def test_steps_of_three_names(self):
        dice = random.Random(8)
        names = ["x", "y", "z"]
        both = names + [name + "'" for name in names]
        for many, most in ((12, 9), (20, 9), (12, MOST)):
            one = Step(names, ties_around(dice, both, many, most))
            eight = one.repeated(8)
            four = one * one * one * one
            self.assertEqual(four * four, eight)
            start = Lot(names, ties_around(dice, names, 6, most))
            self.assertEqual(eight.moved(start), four.moved(four.moved(start)))


if __name__ == "__main__":
    unittest.main()
