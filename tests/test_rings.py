"""Promises 63 and 64: rings of names that tighten each other endlessly, chains and stars of six names."""

import itertools
import random
import unittest
from fractions import Fraction

from tests.plain import pair
from tests.test_certificates import plainly_derives, plainly_refutes
from tiespan.certificates import derive, refute
from tiespan.errors import Impossible, NotImplied, Possible
from tiespan.lots import Lot

NAMES = ["a", "b", "c", "d", "e", "f"]


def at_most(name, other, rate, number):
    """Returns the tie by which a name is at most a multiple of another one and a number."""
    terms = sorted([(name, (1, 1)), (other, pair(-rate))])
    return tuple(terms), pair(number)


def ring(names, rates, numbers):
    """Returns the lot in which each name is at most a multiple of the next one and a number, and so round."""
    nexts = names[1:] + names[:1]
    return Lot(names, [at_most(*row) for row in zip(names, nexts, rates, numbers)])


def around(rates, numbers):
    """Returns the multiple and the number that a way once round the ring comes to, for the first name."""
    rate, number = Fraction(1), Fraction(0)
    for one, more in zip(rates, numbers):
        number += rate * more
        rate *= one
    return rate, number


def turned(things, by):
    return things[by:] + things[:by]


def outcome(do):
    """Returns what a call returns, or the answer of the error that it raises."""
    try:
        return True, do()
    except (NotImplied, Possible) as error:
        return False, error.answer


class RingTest(unittest.TestCase):
    def check(self, names, rates, numbers):
        """Checks a ring of positive rates against the plain rule for a way once round."""
        lot = ring(names, rates, numbers)
        rate, number = around(rates, numbers)
        if rate == 1:
            self.check_even(lot, number)
            return
        self.assertIs(lot.possible, True)
        for by, name in enumerate(names):
            rate, number = around(turned(rates, by), turned(numbers, by))
            end = number / (1 - rate)
            stretch = (None, pair(end)) if rate < 1 else (pair(end), None)
            self.assertEqual(lot.stretch(name), stretch)
            sign = 1 if rate < 1 else -1
            tie = ((name, (sign, 1)),), pair(sign * end)
            self.check_derived(lot, tie, True)
            self.check_derived(lot, (tie[0], pair(sign * end - Fraction(1, 10 ** 9))), False)
            self.check_derived(lot, (((name, (-sign, 1)),), (1000, 1)), False)
        self.check_solution(lot)

    def check_even(self, lot, number):
        """A product of 1 bounds nothing; a way round with a number below 0 is a contradiction."""
        self.assertIs(lot.possible, number >= 0)
        for name in lot.names():
            self.assertEqual(lot.stretch(name), (None, None) if number >= 0 else None)
        found, answer = outcome(lambda: refute(lot))
        self.assertIs(found, number < 0)
        if found:
            self.assertTrue(plainly_refutes(lot.ties(), answer))
            self.assertLessEqual(len(answer), len(lot.names()) + 1)
            with self.assertRaises(Impossible):
                lot.solution()
        else:
            self.assertTrue(lot.holds(answer))
            self.check_solution(lot)

    def check_derived(self, lot, tie, follows):
        found, answer = outcome(lambda: derive(lot, tie))
        self.assertIs(found, follows)
        if found:
            self.assertTrue(plainly_derives(lot.ties(), tie, answer))
            self.assertLessEqual(len(answer), len(lot.names()))
        else:
            self.assertTrue(lot.holds(answer))

    def check_solution(self, lot):
        targets = {name: (100 * (at - 2), 1) for at, name in enumerate(lot.names())}
        for asked in ({}, targets):
            self.assertTrue(lot.holds(lot.solution(**asked)))
        self.assertFalse(outcome(lambda: refute(lot))[0])

    def test_example_of_the_document(self):
        lot = Lot.read(["x", "y"], "x <= 1/2*y + 1; y <= 1/2*x + 1")
        self.assertEqual([lot.stretch("x"), lot.stretch("y")], [(None, (2, 1))] * 2)
        self.check(["x", "y"], [Fraction(1, 2)] * 2, [Fraction(1)] * 2)
        bounded = lot * Lot.read(["x", "y"], "y <= 3")
        self.assertEqual(bounded.stretch("x"), (None, (2, 1)))

    def test_products_below_at_and_above_1(self):
        dice = random.Random(1)
        for many in range(2, 7):
            for turn in range(8):
                rates = [Fraction(dice.randint(1, 5), dice.randint(1, 5)) for at in range(many)]
                numbers = [Fraction(dice.randint(-6, 6), dice.randint(1, 4)) for at in range(many)]
                self.check(NAMES[:many], rates, numbers)
                product = around(rates[:-1], numbers[:-1])[0]
                self.check(NAMES[:many], rates[:-1] + [1 / product], numbers)

    def test_product_of_exactly_1(self):
        for many in range(2, 7):
            rates = [Fraction(2)] * (many - 1) + [Fraction(1, 2 ** (many - 1))]
            for last, possible in ((Fraction(1), True), (Fraction(0), True), (Fraction(-1, 10 ** 20), False)):
                numbers = [Fraction(0)] * (many - 1) + [last]
                self.assertIs(ring(NAMES[:many], rates, numbers).possible, possible)
                self.check(NAMES[:many], rates, numbers)

    def test_nearly_1(self):
        tiny = Fraction(1, 10 ** 25)
        for rate in (1 - tiny, 1 + tiny):
            self.check(NAMES, [rate] + [Fraction(1)] * 5, [Fraction(1), Fraction(-2)] * 3)

    def test_rings_that_meet(self):
        """A bound from below and a ring from above leave nothing, one point, or a stretch."""
        upper = ring(NAMES, [Fraction(1, 2)] * 6, [Fraction(1)] * 6)
        for least, possible in (((2, 1), True), ((2000001, 1000000), False), ((1, 1), True)):
            lot = upper * Lot(NAMES, [((("d", (-1, 1)),), (-least[0], least[1]))])
            self.assertIs(lot.possible, possible)
            if not possible:
                paper = refute(lot)
                self.assertTrue(plainly_refutes(lot.ties(), paper))
                self.assertLessEqual(len(paper), 7)
        self.assertEqual((upper * Lot.read(NAMES, "d >= 2")).solution(), {name: (2, 1) for name in NAMES})
        self.assertEqual((upper * Lot.read(NAMES, "d >= 1")).stretch("c"), ((-30, 1), (2, 1)))

    def test_two_rings_the_other_way(self):
        """Rings of opposite ties bound from both sides."""
        names = NAMES[:4]
        lot = ring(names, [Fraction(1, 3)] * 4, [Fraction(2)] * 4)
        lower = Lot(names, [(tuple((name, (-rate[0], rate[1])) for name, rate in terms), (0, 1)) for terms, bound in lot.ties()])
        both = lot * lower
        self.assertEqual([both.stretch(name) for name in names], [((0, 1), (3, 1))] * 4)

    def test_rates_below_0(self):
        lot = Lot.read(["x", "y"], "x <= -1/2*y + 1; y <= -1/2*x + 1; -x <= 1/2*y + 1; -y <= 1/2*x + 1")
        self.assertEqual([lot.stretch("x"), lot.stretch("y")], [((-2, 1), (2, 1))] * 2)


class ChainTest(unittest.TestCase):
    def test_chain(self):
        dice = random.Random(2)
        for turn in range(10):
            rates = [Fraction(dice.randint(1, 4), dice.randint(1, 3)) for at in range(5)]
            numbers = [Fraction(dice.randint(-4, 4), 2) for at in range(5)]
            names = dice.sample(NAMES, 6)
            lot = Lot(NAMES, [at_most(*row) for row in zip(names, names[1:], rates, numbers)])
            rate, number = around(rates, numbers)
            self.assertEqual(lot.stretch(names[0]), (None, None))
            figure = lot.shadow(names[0], names[5])
            self.assertEqual(len(figure), 1)
            a, b, c = figure.rows()[0]
            self.assertEqual((Fraction(b, a), Fraction(*c) / a), (-rate, number))
            bound = Fraction(dice.randint(-9, 9), 5)
            ended = lot * Lot(NAMES, [(((names[5], (1, 1)),), pair(bound))])
            self.assertEqual(ended.stretch(names[0]), (None, pair(rate * bound + number)))
            self.check_ends(ended, names, rate * bound + number)

    def check_ends(self, lot, names, top):
        answer = lot.solution(**{names[0]: (10 ** 6, 1)})
        self.assertTrue(lot.holds(answer))
        tie = ((names[0], (1, 1)),), pair(top)
        paper = derive(lot, tie)
        self.assertTrue(plainly_derives(lot.ties(), tie, paper))
        self.assertEqual(len(paper), 6)
        beyond = lot * Lot(NAMES, [(((names[0], (-1, 1)),), pair(-top - Fraction(1, 10 ** 6)))])
        paper = refute(beyond)
        self.assertTrue(plainly_refutes(beyond.ties(), paper))
        self.assertEqual(len(paper), 7)
        with self.assertRaises(Impossible):
            beyond.solution()

    def test_equations(self):
        lot = Lot.read(NAMES, "a = 2*b + 1; b = 2*c + 1; c = 2*d + 1; d = 2*e + 1; e = 2*f + 1")
        self.assertEqual(lot.shadow("a", "f").rows(), [(-1, 32, (-31, 1)), (1, -32, (31, 1))])
        self.assertEqual(lot.solution(d=(1, 3)), {"a": (0, 1), "b": (-1, 2), "c": (-3, 4), "d": (-7, 8), "e": (-15, 16),
                                                  "f": (-31, 32)})
        self.assertEqual(len(lot.closed()), 30)

    def test_star(self):
        for center in NAMES:
            others = [name for name in NAMES if name != center]
            ties = [at_most(name, center, Fraction(at + 1), Fraction(0)) for at, name in enumerate(others)]
            ties += [at_most(center, name, Fraction(1, at + 2), Fraction(1)) for at, name in enumerate(others)]
            lot = Lot(NAMES, ties)
            for at, name in enumerate(others):
                self.assertEqual(lot.stretch(name), (None, pair(Fraction(2 * (at + 1)))))
            self.assertEqual(lot.stretch(center), (None, (2, 1)))
            for one, other in itertools.combinations(others, 2):
                rows = lot.shadow(one, other).rows()
                first, second = others.index(one) + 1, others.index(other) + 1
                self.assertEqual(len([row for row in rows if row[0] != 0 and row[1] != 0]), 2)
                for (name, rate), (more, share) in (((one, first), (other, second)), ((other, second), (one, first))):
                    tie = at_most(name, more, Fraction(rate, share + 1), Fraction(rate))
                    self.assertTrue(plainly_derives(ties, tie, derive(lot, tie)))
            self.assertTrue(lot.holds(lot.solution(**{name: (7, 1) for name in NAMES})))
            beyond = lot * Lot(NAMES, [(((others[4], (-1, 1)),), (-21, 2))])
            self.assertTrue(plainly_refutes(beyond.ties(), refute(beyond)))


if __name__ == "__main__":
    unittest.main()
