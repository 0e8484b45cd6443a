"""Promises 1 to 4: fractions."""

import random
import sys
import unittest
from fractions import Fraction

from tiespan.errors import InvalidRatio, ParseError
from tiespan.ratios import (
    add, divide, greatest, is_less, is_ratio, least, multiply, ratio, ratio_text, read_ratio, subtract,
)

HUGE = 10 ** 30 - 1
NO_FRACTIONS = [
    None, True, False, 0, 1, -5, "", "1", "1/2", (), (1,), (1, 2, 3), [1, 2], [1], [], (1, 0), (0, 0), (1, -2), (-1, -2),
    (2, 4), (3, 3), (0, 2), (0, -1), (-2, 4), (True, 1), (False, 1), (1, True), (True, True), (1, None), (None, 1),
    ("1", 2), (1, "2"), ("1", "2"), ((1, 2), 3), (1, (2, 3)), ((1, 2), (1, 3)), [(1, 2)], ((1, 2),), "ab", (HUGE, HUGE),
    (1, [2]), ([1], 2), (2 * HUGE, 4), (HUGE, 3),
]


def pairs(seed, count):
    dice = random.Random(seed)
    found = []
    for turn in range(count):
        most = dice.choice([2, 9, 1000, HUGE])
        found.append(Fraction(dice.randint(-most, most), dice.randint(1, most)))
    return found


def pair(number):
    return (number.numerator, number.denominator)


class RatioTest(unittest.TestCase):
    def test_ratio_of_one_number(self):
        for top in (0, 1, -1, 7, -12, HUGE, -HUGE):
            self.assertEqual(ratio(top), (top, 1))
            self.assertEqual(ratio(top=top), (top, 1))

    def test_ratio_of_two_numbers(self):
        told = [
            ((6, 4), (3, 2)), ((-6, 4), (-3, 2)), ((6, -4), (-3, 2)), ((-6, -4), (3, 2)), ((0, 5), (0, 1)),
            ((0, -5), (0, 1)), ((5, 1), (5, 1)), ((5, -1), (-5, 1)), ((12, 3), (4, 1)), ((7, 7), (1, 1)),
            ((1, 3), (1, 3)), ((HUGE, HUGE), (1, 1)), ((HUGE, -3), (-HUGE // 3, 1)), ((1, -HUGE), (-1, HUGE)),
        ]
        for (top, under), found in told:
            self.assertEqual(ratio(top, under), found)
            self.assertEqual(ratio(under=under, top=top), found)
            self.assertIs(ratio(top, under).__class__, tuple)

    def test_ratio_of_many_numbers(self):
        dice = random.Random(1)
        for turn in range(500):
            scale = dice.randint(1, 10 ** dice.randint(1, 15))
            top, under = dice.randint(-HUGE, HUGE) // scale * scale, dice.randint(1, HUGE) * scale
            self.assertEqual(ratio(top, -under), pair(Fraction(top, -under)))

    def test_ratio_of_long_numbers(self):
        dice = random.Random(2)
        for turn in range(300):
            shared = dice.getrandbits(dice.choice([1, 60, 4000, 9000])) + 1
            top = dice.getrandbits(dice.choice([1, 300, 4090, 4100, 9000, 15000])) + 1
            under = dice.choice([dice.getrandbits(dice.choice([1, 300, 4100, 9000])) + 1, top, top + 1, 2 * top - 1, 2 * top, top * top + 1])
            found = ratio(top * shared, -under * shared)
            self.assertEqual(found, pair(Fraction(-top, under)))
            self.assertIs(is_ratio((top * 2, under * 2)), False)
        one, other = 1, 1
        for turn in range(12000):
            one, other = other, one + other
        self.assertEqual((ratio(one, other), ratio(other * 6, one * 9)), ((one, other), pair(Fraction(other * 2, one * 3))))

    def test_division_by_zero(self):
        for top in (0, 1, -1, HUGE):
            with self.assertRaises(InvalidRatio) as caught:
                ratio(top, 0)
            self.assertEqual(caught.exception.given, 0)

    def test_is_ratio(self):
        for thing in [(0, 1), (1, 1), (-1, 1), (1, 2), (-3, 2), (HUGE, 1), (-1, HUGE), (HUGE, HUGE - 1)]:
            self.assertIs(is_ratio(thing), True)
        for thing in NO_FRACTIONS:
            with self.subTest(thing=thing):
                self.assertIs(is_ratio(thing), False)


class ReckoningTest(unittest.TestCase):
    def test_examples(self):
        self.assertEqual(add((1, 2), (1, 3)), (5, 6))
        self.assertEqual(add((1, 2), (-1, 2)), (0, 1))
        self.assertEqual(subtract((1, 2), (1, 3)), (1, 6))
        self.assertEqual(multiply((2, 3), (3, 2)), (1, 1))
        self.assertEqual(multiply((0, 1), (-5, 7)), (0, 1))
        self.assertEqual(divide((1, 2), (-1, 4)), (-2, 1))
        self.assertEqual(divide((0, 1), (-1, 4)), (0, 1))
        self.assertEqual(divide(one=(3, 1), other=(2, 1)), (3, 2))
        self.assertIs(is_less((1, 3), (1, 2)), True)
        self.assertIs(is_less((-1, 2), (-1, 3)), True)
        self.assertIs(is_less((1, 2), (1, 2)), False)
        self.assertIs(is_less(one=(1, 2), other=(-7, 3)), False)

    def test_many(self):
        numbers = pairs(2, 400)
        for one, other in zip(numbers, numbers[1:]):
            told = pair(one), pair(other)
            self.assertEqual(add(*told), pair(one + other))
            self.assertEqual(subtract(*told), pair(one - other))
            self.assertEqual(multiply(*told), pair(one * other))
            self.assertIs(is_less(*told), one < other)
            if other != 0:
                self.assertEqual(divide(*told), pair(one / other))

    def test_divide_by_zero(self):
        for one in ((0, 1), (1, 2), (-HUGE, 7)):
            with self.assertRaises(InvalidRatio) as caught:
                divide(one, (0, 1))
            self.assertEqual(caught.exception.given, 0)

    def test_least_and_greatest(self):
        self.assertIsNone(least())
        self.assertIsNone(greatest())
        self.assertIsNone(least(None))
        self.assertIsNone(greatest(None, None))
        for find in (least, greatest):
            self.assertEqual(find((1, 2)), (1, 2))
            self.assertEqual(find(None, (0, 1), None), (0, 1))
            self.assertEqual(find((1, 2), (1, 2)), (1, 2))
        self.assertEqual(least((1, 2), None, (-1, 3), (1, 7)), (-1, 3))
        self.assertEqual(greatest((1, 2), None, (-1, 3), (2, 3)), (2, 3))
        self.assertEqual(least((3, 1), (10, 1), (2, 1)), (2, 1))
        self.assertEqual(greatest((-3, 1), (-10, 1), (-2, 1)), (-2, 1))
        numbers = pairs(3, 60)
        self.assertEqual(least(*[pair(one) for one in numbers]), pair(min(numbers)))
        self.assertEqual(greatest(*[pair(one) for one in numbers]), pair(max(numbers)))


class TextTest(unittest.TestCase):
    def test_both_ways(self):
        told = [((0, 1), "0"), ((5, 1), "5"), ((-5, 1), "-5"), ((1, 2), "1/2"), ((-7, 30), "-7/30"), ((100, 1), "100")]
        for one, text in told:
            self.assertEqual(ratio_text(one), text)
            self.assertEqual(read_ratio(text), one)
            self.assertEqual(read_ratio(text=ratio_text(one=one)), one)

    def test_any_number_of_digits(self):
        for many in (1, 29, 30, 31, 63, 64, 65, 127, 128, 129, 1500, 3000, 4300, 4301, 9000):
            for text in ("1" + "0" * (many - 1), "7" * many, "-" + "8" * many, "-1" + "0" * (many - 1) + "/3"):
                one = read_ratio(text)
                self.assertTrue(is_ratio(one))
                self.assertEqual(ratio_text(one), text)
                if many < 4000:
                    self.assertEqual(one, pair(Fraction(text)))
            text = "1/" + "3" * many
            self.assertEqual(ratio_text(read_ratio(text)), text)

    def test_many_digits_whatever_python_allows(self):
        allowed = sys.get_int_max_str_digits()
        sys.set_int_max_str_digits(640)
        try:
            text = "-" + "123456789" * 100 + "/" + "1" + "0" * 900
            self.assertEqual(ratio_text(read_ratio(text)), text)
        finally:
            sys.set_int_max_str_digits(allowed)

    def test_wrong_texts(self):
        texts = [
            "", " ", "-", "/", "-/", "+1", "+1/2", "--1", "-+1", "2/4", "3/1", "0/1", "0/5", "-0", "-0/1", "00", "007", "01",
            "1/02", "01/2", "1/0", "0/0", "1/", "/2", "1//2", "1/2/3", "1/-2", "-1/-2", " 1", "1 ", "1 /2", "1/ 2", "- 1",
            "1\n", "\n", "1_000", "1.5", "1e5", "x", "1x", "x1", "0x1", "None", "1,2", "1/2 ", "\t1", "1/2\n", "\u0661",
            "\u00b2", "1/\u0662", "4/2", "-2/4", "10/100", "0" * 31, "9" * 40 + "/3", "2/" + "4" * 5000, "0" * 5000,
        ]
        for text in texts:
            with self.subTest(text=text[:40]):
                with self.assertRaises(ParseError) as caught:
                    read_ratio(text)
                self.assertEqual(caught.exception.at, 0)


if __name__ == "__main__":
    unittest.main()
