"""Promises 5 to 8: names, ties, their texts, and reading."""

import random
import unittest
from fractions import Fraction

from tiespan.errors import NotTied, ParseError
from tiespan.ties import is_kept, is_name, is_tie, names_in, read_ties, reduced, tie_text

ONE, HALF, TWO, ZERO = (1, 1), (1, 2), (2, 1), (0, 1)
X, Y = ("x", ONE), ("y", (-1, 2))


def pair(number):
    return (number.numerator, number.denominator)


def a_tie(dice):
    names = sorted(dice.sample(["a", "b", "x", "x'", "xy", "zzzzzz", "zzzzzz'"], dice.randint(1, 2)))
    numbers = [Fraction(dice.choice([-1, 1]) * dice.randint(1, 12), dice.randint(1, 12)) for name in names]
    bound = Fraction(dice.randint(-12, 12), dice.randint(1, 12))
    return (tuple((name, pair(number)) for name, number in zip(names, numbers)), pair(bound))


class KindsTest(unittest.TestCase):
    def test_is_name(self):
        for text in ("a", "z", "x'", "abcdef", "abcdef'", "zzzzzz", "self", "or"):
            self.assertIs(is_name(text), True)
            self.assertIs(is_name(text=text), True)
        things = [
            "", "'", "''", "x''", "'x", "x'y", "abcdefg", "abcdefg'", "X", "aB", "x1", "1", "x ", " x", "x y", "x-y", "x\n",
            "\u00e4", "\u00df", "x\u2019", "_", None, 0, 1, True, (), ("x",), ["x"], [], ("a", "b"), ["a", "'"],
        ]
        for thing in things:
            with self.subTest(thing=thing):
                self.assertIs(is_name(thing), False)

    def test_is_tie(self):
        ties = [
            ((X,), ZERO), ((X, Y), (3, 1)), ((("a", ONE), ("a'", ONE)), ZERO), ((("a'", ONE), ("b", ONE)), (-5, 3)),
            ((("a'", ONE), ("aa", ONE)), ZERO), ((("abcdef'", (-7, 10 ** 30)),), (10 ** 30 - 1, 2 ** 40)),
        ]
        for tie in ties:
            self.assertIs(is_tie(tie), True)
            self.assertIs(is_tie(thing=tie), True)

    def test_is_no_tie(self):
        things = [
            None, True, 0, "", "x <= 3", (), [], (X,), ((X,),), ((X,), ZERO, ZERO), [(X,), ZERO], ([X], ZERO),
            (([*X],), ZERO), ((), ZERO), ((X, Y, ("z", ONE)), ZERO), ((Y, X), ZERO), ((X, X), ZERO),
            ((("x", ONE), ("x", TWO)), ZERO), ((("x", ZERO),), ZERO), ((("x", ONE), ("y", ZERO)), ZERO),
            ((("x", 1),), ZERO), ((("x", (2, 4)),), ZERO), ((("x", [1, 1]),), ZERO), ((("x", (True, 1)),), ZERO),
            ((("X", ONE),), ZERO), ((("", ONE),), ZERO), ((("abcdefg", ONE),), ZERO), (((1, ONE),), ZERO),
            (((("x",), ONE),), ZERO), ((("x", ONE, ONE),), ZERO), ((("x",),), ZERO), (("x", ONE), ZERO), (X, ZERO),
            ((X,), 0), ((X,), None), ((X,), [0, 1]), ((X,), (2, 2)), ((X,), "0"), ((X,), (0, True)), ("ab", ZERO),
            ((X, None), ZERO), ((None, X), ZERO), ((X, (("y",), ONE)), ZERO), (((True, ONE), X), ZERO), ("x", "y"),
            ((("b", ONE), ("a'", ONE)), ZERO), ((("a'", ONE), ("a", ONE)), ZERO), ({}, ZERO), ((X,), {}),
        ]
        for thing in things:
            with self.subTest(thing=thing):
                self.assertIs(is_tie(thing), False)

    def test_names_in(self):
        self.assertEqual(names_in(((X,), ZERO)), ["x"])
        tie = ((("a'", HALF), ("b", TWO)), ZERO)
        self.assertEqual(names_in(tie=tie), ["a'", "b"])
        names_in(tie).append("c")
        self.assertEqual(names_in(tie), ["a'", "b"])


class ReducedTest(unittest.TestCase):
    def test_examples(self):
        told = [
            (((X, Y), (3, 1)), ((("x", TWO), ("y", (-1, 1))), (6, 1))),
            (((("x", (6, 1)), ("y", (-4, 1))), (3, 1)), ((("x", (3, 1)), ("y", (-2, 1))), (3, 2))),
            (((("x", (2, 3)), ("y", (4, 5))), (1, 1)), ((("x", (5, 1)), ("y", (6, 1))), (15, 2))),
            (((("x", (-5, 7)),), (10, 1)), ((("x", (-1, 1)),), (14, 1))),
            (((("x", (5, 7)),), ZERO), ((("x", ONE),), ZERO)),
            (((("x", ONE), ("y", ONE)), HALF), ((("x", ONE), ("y", ONE)), HALF)),
        ]
        for tie, found in told:
            self.assertEqual(reduced(tie), found)
            self.assertEqual(reduced(tie=found), found)

    def test_many(self):
        dice = random.Random(4)
        for turn in range(300):
            tie = a_tie(dice)
            found = reduced(tie)
            self.assertTrue(is_tie(found))
            scale = Fraction(*found[0][0][1]) / Fraction(*tie[0][0][1])
            self.assertGreater(scale, 0)
            self.assertEqual(Fraction(*found[1]), scale * Fraction(*tie[1]))
            for (name, rate), (other, more) in zip(tie[0], found[0]):
                self.assertEqual((other, Fraction(*more)), (name, scale * Fraction(*rate)))
                self.assertEqual(more[1], 1)
            numbers = [rate[0] for name, rate in found[0]]
            self.assertFalse(any(all(number % by == 0 for number in numbers) for by in range(2, 200)))

    def test_is_kept(self):
        tie = ((("x", TWO), ("y", (-1, 2))), (3, 1))
        self.assertIs(is_kept(tie, {"x": ONE, "y": ONE}), True)
        self.assertIs(is_kept(tie, {"x": (3, 2), "y": ZERO}), True)
        self.assertIs(is_kept(tie=tie, values={"x": (16, 10 ** 1 + 1), "y": (-2, 11), "z": ZERO}), True)
        self.assertIs(is_kept(tie, {"y": ZERO, "x": (1501, 1000)}), False)
        self.assertIs(is_kept(((("x", (-1, 1)),), (-1, 1)), {"x": (1, 1)}), True)
        self.assertIs(is_kept(((("x", (-1, 1)),), (-1, 1)), {"x": (99, 100)}), False)
        dice = random.Random(5)
        for turn in range(300):
            tie = a_tie(dice)
            values = {name: Fraction(dice.randint(-9, 9), dice.randint(1, 9)) for name in names_in(tie)}
            total = sum(Fraction(*rate) * values[name] for name, rate in tie[0])
            told = {name: pair(values[name]) for name in values}
            self.assertIs(is_kept(tie, told), total <= Fraction(*tie[1]))
            self.assertIs(is_kept((tie[0], pair(total)), told), True)


class TextTest(unittest.TestCase):
    def test_tie_text(self):
        told = [
            (((X,), (3, 1)), "x <= 3"),
            (((("x", (-1, 1)),), (-3, 2)), "-x <= -3/2"),
            (((("x", (-2, 1)), ("y", ONE)), ZERO), "-2*x + y <= 0"),
            (((X, ("y", (-1, 1))), ZERO), "x - y <= 0"),
            (((("x", (-1, 1)), ("y", (-3, 1))), ONE), "-x - 3*y <= 1"),
            (((("x", TWO), ("y", (-1, 2))), (3, 1)), "4*x - y <= 6"),
            (((("x", (2, 3)), ("x'", (5, 7))), (1, 9)), "14*x + 15*x' <= 7/3"),
            (((("x", (5, 1)),), ONE), "x <= 1/5"),
            (((("x", HALF),), HALF), "x <= 1"),
        ]
        for tie, text in told:
            self.assertEqual(tie_text(tie), text)
            self.assertEqual(tie_text(tie=tie), text)

    def test_read_again(self):
        dice = random.Random(6)
        for turn in range(300):
            tie = a_tie(dice)
            self.assertEqual(read_ties(tie_text(tie)), [reduced(tie)])

    def test_very_long_numbers_are_written(self):
        tie = ((("x", (1, 10 ** 4500 + 1)), ("y", (1, 10 ** 4500))), ONE)
        self.assertEqual(len(tie_text(tie)), 4501 + 4501 + 9001 + len("*x + *y <= "))


class ReadTest(unittest.TestCase):
    def read(self, text):
        return [tie_text(tie) for tie in read_ties(text)]

    def test_signs(self):
        self.assertEqual(self.read("2*x - 1/2*y <= 3"), ["4*x - y <= 6"])
        self.assertEqual(self.read("2*x - 1/2*y >= 3"), ["-4*x + y <= -6"])
        self.assertEqual(self.read("2*x - 1/2*y = 3"), ["4*x - y <= 6", "-4*x + y <= -6"])
        self.assertEqual(read_ties(text="y = 1/2"), [((("y", ONE),), HALF), ((("y", (-1, 1)),), (-1, 2))])
        self.assertEqual(self.read("-x >= -y"), ["x - y <= 0"])

    def test_sums(self):
        told = [
            ("x+x+x<=1", "x <= 1/3"), ("x<=x'", "x - x' <= 0"), ("3 <= x", "-x <= -3"), ("0 <= x - y", "-x + y <= 0"),
            ("1 + x <= 2 + y", "x - y <= 1"), ("x - 1/2 <= 1/2 - y", "x + y <= 1"), ("b <= a", "-a + b <= 0"),
            ("  x  <=  3  ", "x <= 3"), ("2 * x<=3", "x <= 3/2"), ("2*x+3*y-2*x<=1", "y <= 1/3"),
            ("x + y <= y", "x <= 0"), ("x + y + z <= z", "x + y <= 0"), ("0*z + x <= 5", "x <= 5"),
            ("x - x + y <= 0*x", "y <= 0"), ("- 2*x <= - 3", "-x <= -3/2"), ("-3/2 <= -x", "x <= 3/2"),
            ("x - 1 + 2 - 3 <= 4 - 5", "x <= 1"), ("1/3*x + 1/6*x <= 1", "x <= 2"), ("-0 <= x", "-x <= 0"),
            ("abcdef' - zzzzzz <= 0", "abcdef' - zzzzzz <= 0"), ("x <= " + "9" * 30, "x <= " + "9" * 30),
            ("1/" + "7" * 30 + "*x <= 1", "x <= " + "7" * 30), ("x<=-3", "x <= -3"), ("x'-x<=0", "-x + x' <= 0"),
        ]
        for text, found in told:
            with self.subTest(text=text):
                self.assertEqual(self.read(text), [found])

    def test_long_text(self):
        text = " + ".join(["x", "1/3*y"] * 300) + " <= " + " + ".join(["1/7"] * 70)
        self.assertEqual(self.read(text), ["3*x + y <= 1/10"])

    def test_many_long_numbers(self):
        dice = random.Random(7)
        numbers = [Fraction(dice.randint(1, 10 ** 30), dice.randint(1, 10 ** 30 - 1)) for turn in range(45)]
        text = "x <= " + " + ".join(f"{number.numerator}/{number.denominator}" for number in numbers)
        self.assertEqual(read_ties(text), [((("x", ONE),), pair(sum(numbers)))])

    def test_not_tied(self):
        told = [
            ("1 <= 2", 0), ("2 <= 1", 0), ("x <= x", 0), ("x - y <= x - y", 0), ("0*x <= 1", 0), ("0 = 0", 0),
            ("x + y + z <= 0", 3), ("x <= y - z", 3), ("a + b >= c + d", 4), ("a + b + c + d + e = f + g", 7),
            ("x + y + 0*w <= z", 3), ("1/2*x + 1/2*x <= x", 0), ("x + x' <= y", 3),
        ]
        for text, many in told:
            with self.subTest(text=text):
                with self.assertRaises(NotTied) as caught:
                    read_ties(text)
                self.assertEqual(caught.exception.many, many)

    def test_faults(self):
        long, seven = "1" * 31, "abcdefg"
        told = [
            ("", 0), ("   ", 3), ("x", 1), ("x ", 2), ("x <=", 4), ("x <= ", 5), ("x <= -", 6), ("x <= 3 +", 8), ("2*", 2),
            ("2 * ", 4), ("-", 1), ("x +", 3), ("<= 3", 0), ("= 3", 0), (" >= 3", 1), ("x < 3", 2), ("x > 3", 2),
            ("x < = 3", 2), ("x > = 3", 2), ("x <", 2), ("x =< 3", 3), ("x => 3", 3), ("x == 3", 3), ("x <== 3", 4),
            ("x <= 3 <= y", 7), ("x <= 3 = y", 7), ("x <= 3 <", 7), ("x = = 3", 4), ("+x <= 3", 0), ("x <= +3", 5),
            ("--x <= 3", 1), ("x - -y <= 3", 4), ("x + -y <= 3", 4), ("x ++ y <= 3", 3), ("x y <= 3", 2), ("2x <= 3", 1),
            ("2 x <= 3", 2), ("x2 <= 3", 1), ("x*2 <= 3", 1), ("x * y <= 3", 2), ("2*3 <= x", 2), ("2**x <= 3", 2),
            ("*x <= 3", 0), ("2*-x <= 3", 2), ("2*(x) <= 3", 2), ("(x) <= 3", 0), ("x <= 2/4", 5), ("x <= 3/1", 5),
            ("x <= 0/1", 5), ("x <= 1/0", 5), ("x <= 007", 5), ("x <= 00", 5), ("x <= 1/02", 5), ("x <= 1/", 5),
            ("x <= /2", 5), ("x <= 1/2/3", 5), ("x <= 1//2", 5), ("x <= 1 /2", 7), ("x <= 1/ 2", 5), ("x <= 1/x", 5),
            ("x <= 0 3", 7), ("x <= " + long, 5), ("x <= 1/" + long, 5), ("x <= " + long + "/" + long, 5),
            (long + "*x <= 3", 0), (seven + " <= 3", 0), ("x + " + seven + "' <= 3", 4), ("x <= " + "a" * 40, 5),
            ("' <= 3", 0), ("x'' <= 3", 2), ("x ' <= 3", 2), ("x'y <= 3", 2), ("X <= 3", 0), ("xY <= 3", 1),
            ("x_y <= 3", 1), ("x <= 3.5", 6), ("x <= 3;", 6), ("x <= 3\n", 6), ("x\n<= 3", 1), ("\tx <= 3", 0),
            ("x <= 3!", 6), ("x ~ 3", 2), ("x, y <= 3", 1), ("x <= y ? ++", 7), ("2*x 2*y <= 3", 4), ("x <= 3 -", 8),
            ("x <= \u0663", 5), ("\u00e4 <= 3", 0), ("x + 2*y 3/6 <= 1", 8), ("x 2/4", 2), ("x < 2/4", 2),
            ("1 + 2 <= 3 + a + b + c +", 24), ("a + b + c <= 2/4", 13), ("1 <= 2 <= 3", 7), ("x <= 1 +   ", 11),
        ]
        for text, at in told:
            with self.subTest(text=text):
                with self.assertRaises(ParseError) as caught:
                    read_ties(text)
                self.assertEqual(caught.exception.at, at)

    def test_thirty_digits_are_read(self):
        thirty = "1" + "0" * 29
        self.assertEqual(read_ties(f"x <= {thirty}"), [((("x", ONE),), (10 ** 29, 1))])
        self.assertEqual(read_ties(f"{thirty}/{'9' * 30}*x <= 0"), [((("x", ONE),), ZERO)])


if __name__ == "__main__":
    unittest.main()
