"""Promises 38 to 40, 70 and 79: programs, their texts there and back, wrong words, and runs."""

import random
import unittest
from fractions import Fraction

from tests.plain import pair
from tests.plain_programs import run_words, some_texts
from tests.plain_texts import first_wrong_word, plain_form, plain_program
from tiespan.errors import ParseError
from tiespan.programs import program_text, read_program, run_program
from tiespan.ties import reduced

Z, ONE = (0, 1), (1, 1)
X_BELOW_Y = ((("x", ONE), ("y", (-1, 1))), Z)
Y_BELOW_X = ((("x", (-1, 1)), ("y", ONE)), Z)
LONG = "9" * 30

EXAMPLES = {
    "": (),
    "any x": (("any", "x"),),
    "set x 0 1": (("set", "x", (Z, "", Z), (Z, "", ONE)),),
    "set x -3/2 2*y-1": (("set", "x", (Z, "", (-3, 2)), ((2, 1), "y", (-1, 1))),),
    "set x -y y+1/2": (("set", "x", ((-1, 1), "y", Z), (ONE, "y", (1, 2))),),
    "set abcdef -1/2*abcdef+7 x": (("set", "abcdef", ((-1, 2), "abcdef", (7, 1)), (ONE, "x", Z)),),
    "check x-y<=0": (("check", (X_BELOW_Y,)),),
    "check x-y=0": (("check", (X_BELOW_Y, Y_BELOW_X)),),
    "check -x<=1/3": (("check", (((("x", (-1, 1)),), (1, 3)),)),),
    "repeat 0 { }": (("repeat", 0, ()),),
    "repeat 4 { any x any y }": (("repeat", 4, (("any", "x"), ("any", "y"))),),
    "either { } or { }": (("either", (), ()),),
    "either { any x } or { repeat 1 { any y } } any z":
        (("either", (("any", "x"),), (("repeat", 1, (("any", "y"),)),)), ("any", "z")),
    "set set set any any or repeat 2 { any check }":
        (("set", "set", (ONE, "set", Z), (ONE, "any", Z)), ("any", "or"), ("repeat", 2, (("any", "check"),))),
    f"set x {LONG}*y-1/{LONG} {LONG}": (("set", "x", ((int(LONG), 1), "y", (-1, int(LONG))), (Z, "", (int(LONG), 1))),),
}
# Texts that are read, and how they are written again.
WIDER = {
    "set x y+y x-x": "set x 2*y 0",
    "set x 1+2-1/2 0*y": "set x 5/2 0",
    "set x 1-y 2+z": "set x -y+1 z+2",
    "check -2*x<=1/3": "check -x<=1/6",
    "set x z-z+y 3-1+0*y": "set x y 2",
    "set x -1/2+1/2 1-2*y+2": "set x 0 -2*y+3",
    "check 2*x<=2*y+4": "check x-y<=2",
    "check x>=1/2*y": "check -2*x+y<=0",
    "check 3=y+x": "check -x-y=-3",
    "check y=x": "check -x+y=0",
    "check 0<=x+1": "check -x<=1",
    "check x+y+z<=z+1": "check x+y<=1",
}
WRONG = {
    " ": 0, "  ": 0, "x": 0, "or": 0, "{": 0, "}": 0, "{ }": 0, "set": 1, "set x": 2, "set x 1": 3, "set x 1 2 3": 4, "any": 1,
    "any x y": 2, "any  x": 1, " any x": 0, "any x ": 2, "any x  any y": 2, "any x'": 1, "any xyzxyzx": 1, "any X": 1, "any 1": 1,
    "set x' 0 0": 1, "set x y' 0": 2, "set x 0 y'": 3, "set x y'-y' 0": 2, "set x 0 0*y'": 3, "set x y+z 0": 2, "set x 0 y-z": 3,
    "set x 0 --1": 3, "set x 0 +1": 3, "set x 2/4 0": 2, "set x 3/1 0": 2, "set x 1/0 0": 2, "set x 01 0": 2, "set x 2y 0": 2,
    "set x y*2 0": 2, "set x y- 0": 2, "set x 0 1<=2": 3, f"set x {LONG}9 0": 2, f"set x 1/{LONG}9 0": 2, "set x xyzxyzx 0": 2,
    "set x  0": 2, "set x 0 ": 3, "set x y +1": 3, "check": 1, "check ": 1, "check x": 1, "check x<1": 1, "check x<=x": 1,
    "check x-x=y-y": 1, "check 1<=2": 1, "check x+y<=z": 1, "check x'<=1": 1, "check x'-x'<=y": 1, "check y<=x'-x'": 1,
    "check x <=1": 1, "check x<= 1": 1, "check x<=1 y<=1": 2, "check x<=1<=2": 1, "check x=<1": 1, "repeat": 1, "repeat 2": 2,
    "repeat 5 { }": 1, "repeat -1 { }": 1, "repeat 01 { }": 1, "repeat 1/2 { }": 1, "repeat x { }": 1, "repeat { }": 1,
    "repeat  { }": 1, "repeat 12 { }": 1, "repeat 2 any x": 2, "repeat 2 { any x": 5, "repeat 2 {": 3, "repeat 2 {}": 2,
    "repeat 2 { } }": 4, "repeat 2 { or": 3, "repeat 2 {  }": 3, "repeat 2 { any x } any": 7, "either": 1, "either {": 2,
    "either { }": 3, "either { } any x": 3, "either { } or": 4, "either { } or any x": 4, "either { } or {": 5,
    "either { } or { } or { }": 6, "either any x or any y": 1, "either { any x or { } }": 4, "set x 1 2\n": 3, "any x\nany y": 1,
    "Set x 1 2": 0, "set' x 1 2": 0, "repeat 2' { }": 1, "either {' } or { }": 1, "any x }": 2, "any x or": 2, "any": 1,
}


def wrong_word(text):
    """Returns the index that read_program says to be wrong, or None."""
    try:
        read_program(text)
    except ParseError as error:
        return error.at
    return None


class TextTest(unittest.TestCase):
    def test_examples_there_and_back(self):
        for text, program in EXAMPLES.items():
            with self.subTest(text=text):
                self.assertEqual(read_program(text), program)
                self.assertEqual(program_text(program), text)

    def test_wider_texts(self):
        for text, written in WIDER.items():
            with self.subTest(text=text):
                program = read_program(text)
                self.assertEqual(program_text(program), written)
                self.assertEqual(read_program(written), program)

    def test_checks_that_are_not_reduced(self):
        tie = ((("x", (2, 3)), ("y", (-4, 3))), (6, 1))
        opposite = ((("x", (-2, 3)), ("y", (4, 3))), (-6, 1))
        self.assertEqual(program_text((("check", (tie,)),)), "check x-2*y<=9")
        self.assertEqual(program_text((("check", (tie, opposite)),)), "check x-2*y=9")
        self.assertEqual(program_text((("repeat", 2, (("check", (opposite, tie)),)),)), "repeat 2 { check -x+2*y=-9 }")
        self.assertEqual(read_program("check -x+2*y=-9"), (("check", (reduced(opposite), reduced(tie))),))

    def test_drawn_texts_against_a_plain_reading(self):
        for text in some_texts(201, 400, ["x", "y", "zz"], 4, 3):
            program = read_program(text)
            self.assertEqual(program, plain_program(text))
            self.assertEqual(read_program(program_text(program)), program)

    def test_drawn_forms(self):
        dice = random.Random(202)
        for turn in range(400):
            terms = [dice.choice(["1", "2/3", "x", "y", "2*x", "1/2*y", "0*x", "0", "abc"]) for part in range(dice.randint(1, 4))]
            word = dice.choice(["", "-"]) + "".join(term + dice.choice("+-") for term in terms)[:-1]
            form = plain_form(word)
            self.assertEqual(wrong_word("set x " + word + " 0"), 2 if form is None else None, word)
            if form is not None:
                program = read_program("set x " + word + " 0")
                self.assertEqual(program[0][2], form)
                written = program_text(program).split(" ")[2]
                self.assertEqual(plain_form(written), form)
                self.assertNotRegex(written, r"(?<![\d/])[01]\*|/1(?!\d)")
                self.assertRegex(written, r"^-?(\d+(/\d+)?|(\d+(/\d+)?\*)?[a-z]+([+-]\d+(/\d+)?)?)$")


class WrongTest(unittest.TestCase):
    def test_examples(self):
        for text, at in WRONG.items():
            with self.subTest(text=text):
                self.assertEqual(wrong_word(text), at)
                self.assertEqual(first_wrong_word(text), at)

    def test_error(self):
        with self.assertRaises(ParseError) as caught:
            read_program("any x any")
        self.assertEqual((caught.exception.at, caught.exception.tag), (3, "ParseError"))

    def test_changed_texts_against_a_stack(self):
        dice = random.Random(203)
        pool = ["", "set", "any", "check", "either", "repeat", "or", "{", "}", "x", "y", "0", "1", "4", "5", "-1", "x'", "x'-x'", "2/4",
                "x<=1", "x=y", "x=x", "x'<=x'+y", "xyzxyzx", "X", "1/2*x", "x+y", "x+y-x", "{{", "<=", "-"]
        counts = {True: 0, False: 0}
        for text in some_texts(204, 1500, ["x", "y"], 4, 3):
            words = text.split(" ") if text else []
            for turn in range(dice.randint(1, 2)):
                way, at, other = dice.randint(0, 3), dice.randint(0, len(words)), dice.randint(0, len(words))
                if way == 0:
                    words.insert(at, dice.choice(pool))
                elif way == 1:
                    del words[at:at + 1]
                elif way == 2:
                    words[at:at + 1] = [dice.choice(pool)]
                elif max(at, other) < len(words):
                    words[at], words[other] = words[other], words[at]
            text = " ".join(words)
            wrong = first_wrong_word(text)
            counts[wrong is None] += 1
            self.assertEqual(wrong_word(text), wrong, text)
        self.assertGreater(min(counts.values()), 100)

    def test_texts_that_end_too_early(self):
        for text in some_texts(205, 60, ["x", "y"], 3, 3):
            words = text.split(" ")
            for many in range(len(words)):
                part = " ".join(words[:many])
                wrong = first_wrong_word(part)
                self.assertEqual(wrong_word(part), wrong)
                self.assertIn(wrong, (None, many))


class DeepTest(unittest.TestCase):
    """Promise 70."""

    def test_four_deep(self):
        for before, behind in (("repeat 1 { ", " }"), ("either { ", " } or { }"), ("either { } or { ", " }")):
            for inner in ("", "any x", "set x y y check x-y=0"):
                text = (before * 4 + inner + behind * 4).replace("  ", " ")
                self.assertIsNone(wrong_word(text))
                self.assertEqual(program_text(read_program(text)), text)
                self.assertEqual(read_program(text), plain_program(text))

    def test_the_fifth_brace(self):
        for before in ("repeat 1 { ", "either { ", "either { } or { "):
            for last, further in (("repeat 1 { ", 2), ("either { ", 1)):
                text = before * 4 + last
                self.assertEqual(wrong_word(text + "}"), 4 * before.count(" ") + further)
                self.assertEqual(wrong_word(text + "any x }"), 4 * before.count(" ") + further)
        # What comes before the brace is still looked at first.
        self.assertEqual(wrong_word("repeat 1 { " * 4 + "repeat 5 {"), 13)
        self.assertEqual(wrong_word("repeat 1 { " * 4 + "either } {"), 13)
        self.assertEqual(wrong_word("repeat 1 { " * 4 + "repeat 1"), 14)

    def test_the_depth_goes_back(self):
        text = "repeat 1 { " * 4 + "} either { any x } or { repeat 2 { } } } } }"
        self.assertEqual((wrong_word(text), first_wrong_word(text)), (22, 22))
        text = "repeat 1 { " * 4 + "} either { any x } or { } } } }"
        self.assertIsNone(wrong_word(text))
        text = "repeat 1 { repeat 1 { repeat 1 { repeat 1 { } repeat 1 { } } } } repeat 1 { repeat 1 { repeat 1 { repeat 1 { } } } }"
        self.assertIsNone(wrong_word(text))
        self.assertEqual(program_text(read_program(text)), text)

    def test_drawn_depths(self):
        dice = random.Random(206)
        for turn in range(200):
            text = ""
            for level in range(dice.randint(3, 6)):
                text += dice.choice(["repeat 1 { ", "either { ", "either { any x } or { ", "repeat 1 { any y } repeat 2 { "])
            self.assertEqual(wrong_word(text + "}"), first_wrong_word(text + "}"))


class RunTest(unittest.TestCase):
    def run_text(self, text, values, *choices):
        return run_program(read_program(text), values, *choices)

    def test_set(self):
        for choice, value in (((0, 1), 2), ((1, 1), 5), ((-1, 1), 5), ((2, 1), 4), ((-2, 1), 4), ((1, 2), 6), ((5, 2), Fraction(26, 7))):
            found = self.run_text("set x 2 8", {"x": Z}, choice)
            self.assertEqual(found, {"x": pair(Fraction(value))})
        self.assertEqual(self.run_text("set x 2 8", {"x": Z}), {"x": (2, 1)})
        self.assertEqual(self.run_text("set x 2 2", {"x": Z}, (7, 1)), {"x": (2, 1)})
        self.assertIsNone(self.run_text("set x 2 1", {"x": Z}))
        self.assertEqual(self.run_text("set x 2*y-1 y+3", {"x": (3, 1), "y": (2, 1)}, (1, 1)), {"x": (4, 1), "y": (2, 1)})

    def test_both_forms_have_the_old_value(self):
        self.assertEqual(self.run_text("set x x-1 x+1", {"x": (3, 1)}, (1, 3)), {"x": (7, 2)})
        self.assertEqual(self.run_text("set x x+1 x+1 set y x x", {"x": Z, "y": (9, 1)}), {"x": ONE, "y": ONE})

    def test_any_and_either(self):
        self.assertEqual(self.run_text("any x", {"x": ONE}, (-7, 3)), {"x": (-7, 3)})
        self.assertEqual(self.run_text("any x", {"x": ONE}), {"x": Z})
        text = "either { set x 1 1 } or { set x 2 2 }"
        for choice, value in (((0, 1), 1), ((1, 1), 2), ((-1, 2), 2), ((9, 1), 2)):
            self.assertEqual(self.run_text(text, {"x": Z}, choice), {"x": (value, 1)})
        self.assertEqual(self.run_text(text, {"x": Z}), {"x": ONE})
        self.assertEqual(self.run_text("either { } or { set x 2 2 }", {"x": Z}, ONE), {"x": (2, 1)})

    def test_check(self):
        values = {"x": (1, 2), "y": (1, 2)}
        self.assertEqual(self.run_text("check x=y check x<=y check x<=1/2", values), values)
        self.assertIsNone(self.run_text("check x<=1/3", values))
        self.assertIsNone(self.run_text("check x=y+1", values))
        self.assertIsNone(self.run_text("check x=y-1", values))
        self.assertIsNone(self.run_text("set x 0 0 check x=y set x 1/2 1/2", values))

    def test_choices_in_order(self):
        found = self.run_text("any x either { any y } or { set y 0 4 } any z", {"x": Z, "y": Z, "z": Z}, (5, 1), ONE, (3, 1), (7, 1), (8, 1))
        self.assertEqual(found, {"x": (5, 1), "y": ONE, "z": (7, 1)})
        found = self.run_text("any x either { any y } or { set y 0 4 } any z", {"x": Z, "y": Z, "z": Z}, (5, 1), Z, (3, 1))
        self.assertEqual(found, {"x": (5, 1), "y": (3, 1), "z": Z})
        # A set uses its choice also where both forms are the same.
        self.assertEqual(self.run_text("set x 1 1 any x", {"x": Z}, (5, 1), (6, 1)), {"x": (6, 1)})
        self.assertEqual(self.run_text("repeat 3 { any x set x x+1 x+1 }", {"x": Z}, ONE, ONE, (2, 1), ONE, (3, 1)), {"x": (4, 1)})

    def test_repeat(self):
        for times in range(5):
            self.assertEqual(self.run_text(f"repeat {times} {{ set x 2*x+1 2*x+1 }}", {"x": Z}), {"x": (2 ** times - 1, 1)})
        self.assertEqual(self.run_text("repeat 4 { repeat 4 { set x x+1 x+1 } }", {"x": Z}), {"x": (16, 1)})
        self.assertIsNone(self.run_text("repeat 3 { check x<=1 set x x+1 x+1 }", {"x": Z}))
        self.assertEqual(self.run_text("repeat 0 { check x<=-1 }", {"x": Z}), {"x": Z})

    def test_passed_values_stay(self):
        for text in ("any x set y x x", "any x check x<=-9", "set x 2 1", "", "repeat 2 { any x }"):
            values = {"y": (3, 1), "x": (2, 1)}
            found = self.run_text(text, values, ONE, ONE, ONE)
            self.assertEqual(values, {"x": (2, 1), "y": (3, 1)})
            self.assertIsNot(found, values)
        self.assertEqual(run_program((), {}), {})

    def test_drawn_runs_against_the_words(self):
        dice = random.Random(207)
        ended = 0
        for text in some_texts(208, 900, ["x", "y", "z"], 4, 3):
            values = {name: dice.choice([Z, ONE, (-2, 1), (1, 2), (3, 1)]) for name in "xyz"}
            choices = [dice.choice([Z, Z, ONE, (-1, 2), (5, 3), (-4, 1)]) for turn in range(dice.randint(0, 8))]
            found = run_program(read_program(text), values, *choices)
            self.assertEqual(found, run_words(text, values, choices), text)
            ended += found is not None
        self.assertGreater(ended, 200)
        self.assertLess(ended, 800)


if __name__ == "__main__":
    unittest.main()
