"""Promises 18 to 23 and 82: what all solutions of a lot leave, held against the plain elimination of names."""

import itertools
import random
import unittest
from fractions import Fraction

from tests import plain, plain_lots
from tests.plain import pair
from tests.plain_lots import bare, kinds, many_lots
from tiespan.figures import Figure
from tiespan.lots import Lot


def paired(ends):
    """Returns a plain stretch as a stretch."""
    return None if ends is None else tuple(None if end is None else pair(Fraction(end)) for end in ends)


def paired_values(values):
    return {name: pair(Fraction(value)) for name, value in values.items()}


def small_lots():
    """Returns the lots of all kinds and many others."""
    lots = list(kinds().values())
    lots += many_lots(1, 40, 1, 4) + many_lots(2, 120, 2, 6) + many_lots(3, 150, 3, 7) + many_lots(4, 60, 4, 7)
    return lots


LOTS = small_lots()


def numbers_in(dice, ends):
    """Returns some number of a plain stretch."""
    low, top = ends
    if low is None and top is None:
        return Fraction(dice.randint(-3, 3))
    if low is None or top is None:
        return (low if top is None else top) + (1 if top is None else -1) * Fraction(dice.randint(0, 4), 2)
    return low + (top - low) * Fraction(dice.randint(0, 3), 3)


class AgainstEliminationTest(unittest.TestCase):
    def test_lots_of_all_sorts(self):
        answers = [lot.possible for lot in LOTS]
        self.assertGreater(answers.count(False), 30)
        self.assertGreater(answers.count(True), 150)
        points = [lot for lot in LOTS if len(lot.names()) > 1 and lot.possible
                  and all(low == top for low, top in map(lot.stretch, lot.names())) and None not in lot.stretch("x")]
        self.assertGreater(len(points), 10)

    def test_possible(self):
        for lot in LOTS:
            self.assertIs(lot.possible, plain_lots.possible(bare(lot.ties())), lot.text())

    def test_stretch(self):
        for lot in LOTS:
            ties = bare(lot.ties())
            for name in lot.names():
                self.assertEqual(lot.stretch(name), paired(plain_lots.stretch(ties, name)), (lot.text(), name))

    def test_shadow(self):
        for lot in LOTS:
            ties = bare(lot.ties())
            for one, other in itertools.permutations(lot.names(), 2):
                figure = lot.shadow(one, other)
                self.assertIsInstance(figure, Figure)
                self.assertTrue(plain.same(figure, plain_lots.shadow(ties, one, other)), (lot.text(), one, other))
                self.assertEqual(figure, lot.shadow(other, one).turned())

    def test_points_of_shadows_can_be_extended(self):
        dice = random.Random(5)
        for lot in many_lots(31, 40, 3, 6):
            ties = bare(lot.ties())
            for one, other in itertools.permutations(lot.names(), 2):
                point = Fraction(dice.randint(-6, 6), 2), Fraction(dice.randint(-6, 6), 2)
                fixed = plain_lots.at_value({one: 1}, point[0]) + plain_lots.at_value({other: 1}, point[1])
                inside = (pair(point[0]), pair(point[1])) in lot.shadow(one, other)
                self.assertIs(inside, plain_lots.possible(ties + fixed))

    def test_solution(self):
        dice = random.Random(6)
        for lot in LOTS:
            targets = {name: Fraction(dice.randint(-9, 9), dice.randint(1, 3)) for name in lot.names() if dice.randint(0, 2)}
            told = paired_values(targets)
            for asked, given in (({}, {}), (targets, told)):
                values = plain_lots.solution(bare(lot.ties()), lot.names(), asked)
                if values is not None:
                    self.assertEqual(lot.solution(**given), paired_values(values), lot.text())
                    self.assertEqual(list(lot.solution(**given)), lot.names())
                    self.assertTrue(lot.holds(lot.solution(**given)))

    def test_holds(self):
        dice = random.Random(7)
        found = []
        for lot in LOTS:
            values = {name: Fraction(dice.randint(-4, 4), dice.randint(1, 2)) for name in lot.names()}
            kept = all(sum(rate * values[name] for name, rate in rates.items()) <= bound for rates, bound in bare(lot.ties()))
            self.assertIs(lot.holds(paired_values(values)), kept)
            found.append(kept)
        self.assertGreater(min(found.count(True), found.count(False)), 50)


class TwoByTwoTest(unittest.TestCase):
    def fits(self, lot, values, name, number):
        low, top = lot.stretch(name)
        if low is not None and number < Fraction(*low) or top is not None and number > Fraction(*top):
            return False
        return all((pair(number), pair(values[other])) in lot.shadow(name, other) for other in values)

    def test_numbers_that_fit_two_by_two_extend_to_a_solution(self):
        dice = random.Random(8)
        many = 0
        for lot in many_lots(41, 50, 4, 6) + list(kinds().values()):
            if not lot.possible:
                continue
            ties = bare(lot.ties())
            names = dice.sample(lot.names(), dice.randint(0, len(lot.names())))
            values = {}
            for name in names:
                number = numbers_in(dice, plain_lots.stretch(ties, name))
                if self.fits(lot, values, name, number):
                    values[name] = number
            for name, number in values.items():
                ties = ties + plain_lots.at_value({name: Fraction(1)}, number)
            self.assertTrue(plain_lots.possible(ties), (lot.text(), values))
            many += len(values) > 2
        self.assertGreater(many, 10)

    def test_each_number_is_found_in_any_order(self):
        dice = random.Random(9)
        for lot in many_lots(42, 40, 4, 7):
            if not lot.possible:
                continue
            values = {}
            for name in dice.sample(lot.names(), 4):
                ends = [lot.shadow(other, name).column(values[other]) for other in values] + [lot.stretch(name)]
                self.assertNotIn(None, ends)
                lows = [Fraction(*end[0]) for end in ends if end[0] is not None]
                tops = [Fraction(*end[1]) for end in ends if end[1] is not None]
                values[name] = pair(numbers_in(dice, (max(lows, default=None), min(tops, default=None))))
            self.assertTrue(lot.holds(values), (lot.text(), values))


class ClosedTest(unittest.TestCase):
    def test_closed(self):
        for lot in LOTS:
            closed = lot.closed()
            if lot.names():
                self.assertEqual(closed.ties(), plain_lots.limited(bare(lot.ties()), lot.names()), lot.text())
            self.assertEqual(closed.names(), lot.names())
            self.assertEqual(closed.closed(), closed)
            self.assertEqual(lot.limited(*lot.names()), closed)

    def test_limited_in_any_order_and_repeated(self):
        dice = random.Random(10)
        for lot in many_lots(51, 40, 4, 7) + [lot for lot in kinds().values() if lot.names()]:
            ties = bare(lot.ties())
            part = [dice.choice(lot.names()) for turn in range(dice.randint(1, 5))]
            found = lot.limited(*part)
            self.assertEqual(found.names(), sorted(set(part)))
            self.assertEqual(found.ties(), plain_lots.limited(ties, part), (lot.text(), part))
            self.assertEqual(found, lot.limited(*part[::-1], part[0]))
            self.assertEqual(found, lot.closed().limited(*part))
            self.assertEqual(lot.limited(), Lot([]))

    def test_order_of_ties(self):
        lot = Lot.read(["z", "y", "x"], "x + y <= 2; z >= 0; z <= 1; x >= 0; y >= 0; y - z <= 0; x - 2*z <= 1; x + z >= 1/2")
        self.assertEqual(lot.closed().text(), (
            "x <= 2; -x <= 0; y <= 1; -y <= 0; z <= 1; -z <= 0; x + y <= 2; -x - z <= -1/2; x - 2*z <= 1; y - z <= 0"
        ))
        self.assertEqual(lot.limited("z", "y", "z").text(), "y <= 1; -y <= 0; z <= 1; -z <= 0; y - z <= 0")
        self.assertEqual(lot.limited("y").text(), "y <= 1; -y <= 0")

    def test_lines_rays_and_points(self):
        self.assertEqual(Lot.read(["x", "y"], "2*x = y + 1").closed().text(), "-2*x + y <= -1; 2*x - y <= 1")
        ray = Lot.read(["x", "y"], "2*x = y + 1; x >= 1")
        self.assertEqual(ray.closed().text(), "-x <= -1; -y <= -1; -2*x + y <= -1; 2*x - y <= 1")
        point = Lot.read(["x", "y"], "2*x = y + 1; x = y")
        self.assertEqual(point.closed().text(), "x <= 1; -x <= -1; y <= 1; -y <= -1")

    def test_the_same_for_the_same_solutions(self):
        texts = [
            "x <= y; y <= z; z <= 3", "z <= 3; x <= z; x <= y; y <= z; y <= 3", "2*x <= 2*y; x <= z; y <= z; 1/3*z <= 1; x <= 5",
            "y - z <= 0; x - y <= 0; z <= 3; z <= 4; x <= 3", "-y >= -z; -x >= -y; -1*z >= -3; x + y <= 6",
        ]
        closed = [Lot.read(["x", "y", "z"], text).closed() for text in texts]
        for lot in closed:
            self.assertEqual(lot, closed[0])
        dice = random.Random(11)
        for lot in LOTS:
            ties = lot.ties() + lot.closed().ties() + dice.sample(lot.ties(), len(lot.ties()) // 2)
            dice.shuffle(ties)
            self.assertEqual(Lot(lot.names(), ties).closed(), lot.closed())

    def test_without_a_solution(self):
        lot = Lot.read(["z", "y", "x"], "z <= y - 1; y <= z")
        self.assertEqual(lot.closed().text(), "x <= 0; -x <= -1")
        self.assertEqual(lot.closed().names(), ["x", "y", "z"])
        self.assertEqual(lot.limited("z", "y").text(), "y <= 0; -y <= -1")
        self.assertEqual(lot.limited("z").text(), "z <= 0; -z <= -1")
        self.assertEqual(lot.limited("x", "x").text(), "x <= 0; -x <= -1")
        self.assertEqual(lot.limited(), Lot([]))
        self.assertFalse(lot.closed().possible)


if __name__ == "__main__":
    unittest.main()
