"""Promises 41 to 43, 68, 75 and 79: the steps of programs, held against runs and against plain elimination."""

import random
import unittest
from fractions import Fraction

from tests import plain_lots
from tests.plain import pair
from tests.plain_lots import bare
from tests.plain_programs import has_either, run_words, some_texts, step_ties, worth_of
from tiespan.errors import InvalidName, InvalidTie, NotTied, ParseError
from tiespan.lots import Lot
from tiespan.motions import Step
from tiespan.programs import compiled, program_text, read_program, run_program

NUMBERS = [(0, 1), (0, 1), (1, 1), (-1, 1), (2, 1), (1, 2), (-3, 2), (4, 1)]


def step_of(names, text):
    return compiled(names, read_program(text))


def text_of(names, text):
    return step_of(names, text).lot().text()


def some_values(dice, names):
    return {name: dice.choice(NUMBERS) for name in names}


def same_step(one, other):
    """Returns whether two steps allow the same, by their closed lots."""
    return one.closed() == other.closed()


def refused(names, program):
    """Returns the name that compiled says to be wrong, or None."""
    try:
        compiled(names, program)
    except InvalidName as error:
        return error.name
    return None


class KindsTest(unittest.TestCase):
    """Promise 43."""

    def test_each_statement(self):
        two = ["x", "y"]
        self.assertEqual(text_of(["x"], "any x"), "")
        self.assertEqual(text_of(two, "any x"), "-y + y' <= 0; y - y' <= 0")
        self.assertEqual(text_of(["x"], "set x 0 3/2"), "x' <= 3/2; -x' <= 0")
        self.assertEqual(text_of(["x"], "set x 2*x+1 2*x+1"), "-2*x + x' <= 1; 2*x - x' <= -1")
        self.assertEqual(text_of(["x"], "set x 2*x 2*x+1"), "-2*x + x' <= 1; 2*x - x' <= 0")
        self.assertEqual(text_of(["x"], "check x<=3"), "x <= 3; x' <= 3; -x + x' <= 0; x - x' <= 0")
        self.assertEqual(text_of(two, "set x y y+1"),
                         "-x' + y <= 0; x' - y <= 1; -x' + y' <= 0; x' - y' <= 1; -y + y' <= 0; y - y' <= 0")
        self.assertEqual(text_of(["x"], "repeat 2 { set x x+1 x+2 }"), "-x + x' <= 4; x - x' <= -2")
        self.assertEqual(text_of(["x"], "repeat 0 { set x x+1 x+2 }"), "-x + x' <= 0; x - x' <= 0")

    def test_closed_form(self):
        for names in (["x"], ["x", "y"], ["x", "y", "z"]):
            self.assertEqual(compiled(names, ()), Step.stay(names).closed())
            for text in some_texts(211, 60, ["x", "y"], 1, 1):
                step = step_of(names + ["x", "y"][len(names):], text)
                self.assertEqual(step, step.closed())

    def test_statements_alone_against_elimination(self):
        dice = random.Random(212)
        for names in (["x", "y"], ["x", "y", "z"]):
            for text in some_texts(213, 80, names, 1, 0):
                program = read_program(text)
                shuffled = dice.sample(names, len(names))
                step = compiled(shuffled, program)
                self.assertEqual((step.names(), step.ties()), (names, step_ties(names, program)))

    def test_set_without_a_value(self):
        self.assertEqual(text_of(["x"], "set x 1 0"), "x <= 0; -x <= -1")
        self.assertEqual(text_of(["x", "y"], "check x<=y check x>=y+1 any x"), "x <= 0; -x <= -1")
        self.assertEqual(text_of(["x", "y"], "set x y -y"), Step(["x", "y"], Lot.read(
            ["x", "x'", "y", "y'"], "y - x' <= 0; x' + y <= 0; y = y'").ties()).closed().lot().text())

    def test_either_is_the_round(self):
        for first, second in (("any x", "any y"), ("set x 0 0", "set x 1 1"), ("check x<=0", "check x>=1"),
                              ("check x<=y-1 check y<=x", "any x"), ("any y", "set x 1 0"), ("set x 1 0", "set y 1 0"), ("", "any x")):
            one, other = step_of(["x", "y"], first), step_of(["x", "y"], second)
            found = step_of(["x", "y"], " ".join(f"either {{ {first} }} or {{ {second} }}".split()))
            self.assertEqual(found.ties(), (one.lot() + other.lot()).ties())
            self.assertEqual(bare(found.ties()), bare(plain_lots.joined(found.lot().names(), bare(one.ties()), bare(other.ties()))))
        self.assertEqual(text_of(["x"], "either { set x 0 0 } or { set x 1 1 }"), "x' <= 1; -x' <= 0")

    def test_either_gives_a_closed_figure(self):
        # A line and a point beside it: the strip between them.
        found = step_of(["x", "y"], "either { any x set y 0 0 } or { set x 0 0 set y 1 1 }")
        self.assertEqual(found.lot().text(), "y' <= 1; -y' <= 0")

    def test_repeat_is_the_step_repeated(self):
        for text in some_texts(214, 25, ["x", "y"], 2, 1):
            step = step_of(["x", "y"], text)
            for times in range(5):
                found = compiled(["x", "y"], (("repeat", times, read_program(text)),))
                self.assertEqual(found, step.repeated(times).closed())

    def test_statements_one_behind_the_other(self):
        for text in some_texts(215, 60, ["x", "y"], 3, 1):
            program = read_program(text)
            step = Step.stay(["x", "y"]).closed()
            for statement in program:
                step = step * compiled(["x", "y"], (statement,))
            self.assertEqual(compiled(["x", "y"], program), step)

    def test_no_names(self):
        for program in ((), (("repeat", 3, ()),), (("either", (), ()),)):
            self.assertEqual(compiled([], program), Step([]))

    def test_lists_in_the_place_of_tuples(self):
        program = read_program("either { any x } or { repeat 2 { check x=y set x 0 y } }")
        self.assertEqual(compiled(("y", "x"), list(program)), compiled(["x", "y"], program))
        self.assertEqual(run_program(list(program), {"x": (0, 1), "y": (0, 1)}, (1, 1)), {"x": (0, 1), "y": (0, 1)})


class ErrorTest(unittest.TestCase):
    """Promises 43 and 79."""

    def test_strange_names(self):
        for text, name in (("any z", "z"), ("any z any w", "w"), ("set x z 1", "z"), ("set x 1 z-1", "z"), ("set z x x", "z"),
                           ("check z<=w", "w"), ("check x<=a any b", "a"), ("repeat 0 { any z }", "z"), ("any xx", "xx"),
                           ("either { any v } or { any u }", "u"), ("either { any u } or { any v }", "u"),
                           ("repeat 2 { either { } or { repeat 0 { check z=1 } } }", "z"), ("set x 1 0 any z", "z")):
            self.assertEqual(refused(["x", "y"], read_program(text)), name, text)
        self.assertIsNone(refused(["x", "y"], read_program("set x 0*z+1 z-z any y")))

    def test_names_of_steps_come_first(self):
        program = read_program("any a repeat 0 { set b c d }")
        for names, wrong in ((["x", "X"], "X"), (["x'"], "x'"), (["y", "x", "y"], "y"), (["x", "y", "z", "w"], "w"), ([""], ""),
                             (["x", "abcdefg"], "abcdefg"), (["x", "y", "z", "x'"], "x'"), (["b", "c", "d", "a"], "a"), (["b", "b", "c'"], "b")):
            self.assertEqual(refused(names, program), wrong)
        self.assertEqual(refused([], program), "a")
        self.assertEqual(refused(["a", "b"], program), "c")
        self.assertEqual(refused(["d", "a", "b"], program), "c")

    def test_names_with_an_apostrophe_in_a_passed_program(self):
        self.assertEqual(refused(["x"], (("any", "x'"),)), "x'")
        self.assertEqual(refused(["x"], (("check", ((((("x'"), (1, 1)),), (0, 1)),)),)), "x'")

    def test_error(self):
        with self.assertRaises(InvalidName) as caught:
            compiled(["x"], (("any", "y"),))
        self.assertEqual((caught.exception.name, caught.exception.tag), ("y", "InvalidName"))

    def test_wrong_parts_of_texts_come_ahead_of_wrong_names(self):
        for text, error in (("x <=", ParseError), ("x <= 1; x <= x; y <", NotTied), ("x <= 1; ", ParseError), ("x+y<=z", NotTied)):
            for names in (["X"], ["x", "x"], [], ["x", "y", "z"]):
                with self.assertRaises(error):
                    Lot.read(names, text)
        with self.assertRaises(InvalidName) as caught:
            Lot.read(["x", "X", "x"], "y <= 1")
        self.assertEqual(caught.exception.name, "X")
        with self.assertRaises(InvalidTie) as caught:
            Lot.read(["x"], "x <= 1; y <= 1")
        self.assertEqual(caught.exception.at, 1)


class AllowsTest(unittest.TestCase):
    """Promises 41 and 42."""

    def check_runs(self, names, text, dice):
        step = step_of(names, text)
        for turn in range(6):
            before = some_values(dice, names)
            choices = [dice.choice(NUMBERS) for turn in range(dice.randint(0, 6))]
            after = run_words(text, before, choices)
            self.assertEqual(run_program(read_program(text), before, *choices), after)
            if after is not None:
                self.assertTrue(step.allows(before, after), (text, before, after))
                self.ended += 1

    def test_each_run_is_allowed(self):
        dice = random.Random(221)
        self.ended = 0
        for names in (["x", "y"], ["x", "y", "z"]):
            for text in some_texts(222, 60, names, 3, 2):
                self.check_runs(names, text, dice)
        self.assertGreater(self.ended, 200)

    def test_against_elimination(self):
        for names, count in ((["x", "y"], 60), (["x", "y", "z"], 25)):
            for text in some_texts(223, count, names, 3, 2, either=False):
                program = read_program(text)
                self.assertFalse(has_either(program))
                self.assertEqual(compiled(names, program).ties(), step_ties(names, program), text)

    def test_either_against_elimination(self):
        for text in some_texts(224, 40, ["x", "y"], 3, 2):
            program = read_program(text)
            self.assertEqual(compiled(["x", "y"], program).ties(), step_ties(["x", "y"], program), text)

    def test_set_allows_what_lies_between_its_forms(self):
        dice = random.Random(225)
        counts = {True: 0, False: 0}
        for low, top in (("0", "1"), ("x", "x+1"), ("-1/2*y", "-1/2*y+2"), ("y", "y"), ("2*x-1", "x")):
            step = step_of(["x", "y"], f"set x {low} {top} check x<=3")
            for turn in range(60):
                before = some_values(dice, ["x", "y"])
                worth = {name: Fraction(*value) for name, value in before.items()}
                value = dice.choice([worth_of(low, worth), worth_of(top, worth), Fraction(*dice.choice(NUMBERS))])
                after = {"x": pair(Fraction(value)), "y": dice.choice([before["y"], before["y"], (9, 1)])}
                allowed = worth_of(low, worth) <= value <= worth_of(top, worth) and value <= 3 and after["y"] == before["y"]
                self.assertEqual(step.allows(before, after), allowed)
                counts[allowed] += 1
        self.assertGreater(min(counts.values()), 50)

    def test_a_set_and_its_choices(self):
        dice = random.Random(226)
        step = step_of(["x", "y"], "set x y-1 y+3")
        for turn in range(40):
            before = some_values(dice, ["x", "y"])
            share = dice.choice([Fraction(0), Fraction(1, 2), Fraction(2, 7), Fraction(9, 10)])
            value = Fraction(*before["y"]) - 1 + share * 4
            after = {"x": pair(value), "y": before["y"]}
            choice = pair(1 / share - 1) if share else (0, 1)
            self.assertEqual(run_program(read_program("set x y-1 y+3"), before, choice), after)
            self.assertTrue(step.allows(before, after))


class ThreeTest(unittest.TestCase):
    """Promises 68 and 75."""

    NAMES = ["x", "y", "z"]

    def test_steps_of_three_names(self):
        for text, more in zip(some_texts(231, 12, self.NAMES, 3, 0), some_texts(232, 12, self.NAMES, 3, 0)):
            first, second = read_program(text), read_program(more)
            one, other = compiled(self.NAMES, first), compiled(self.NAMES, second)
            self.assertEqual((one * other).ties(), step_ties(self.NAMES, first + second))
            self.assertEqual(compiled(self.NAMES, first + second), one * other)
            self.assertEqual(one.repeated(3).ties(), step_ties(self.NAMES, first * 3))
            self.assertEqual(one.repeated(8), one.repeated(4) * one.repeated(4))
            self.assertEqual(one.repeated(0), Step.stay(self.NAMES))
            self.assertTrue(same_step((one * other).back(), other.back() * one.back()))

    def test_moved(self):
        dice = random.Random(233)
        for text in some_texts(234, 30, self.NAMES, 3, 1, either=False):
            program = read_program(text)
            lot = Lot(self.NAMES, plain_lots.some_ties(dice, self.NAMES, 4))
            found = compiled(self.NAMES, program).moved(lot)
            plain = plain_lots.moved(self.NAMES, bare(step_ties(self.NAMES, program)), bare(lot.ties()))
            self.assertEqual((found.names(), found.ties()), (self.NAMES, plain))

    def test_either_moved(self):
        dice = random.Random(235)
        for text in some_texts(236, 12, self.NAMES, 2, 2):
            program = read_program(text)
            lot = Lot(self.NAMES, plain_lots.some_ties(dice, self.NAMES, 3))
            step = compiled(self.NAMES, program)
            self.assertEqual(step.ties(), step_ties(self.NAMES, program), text)
            found = step.moved(lot)
            if lot.possible:
                start = lot.solution(x=dice.choice(NUMBERS), z=dice.choice(NUMBERS))
                for turn in range(5):
                    after = run_program(program, start, *[dice.choice(NUMBERS) for turn in range(5)])
                    self.assertTrue(after is None or found.holds(after), text)

    def test_repeat_within_repeat(self):
        text = "repeat 3 { set x x+1 x+2 repeat 2 { set y y+1 y+1 } }"
        found = step_of(["x", "y"], text)
        self.assertEqual(found.lot().text(), "-x + x' <= 6; x - x' <= -3; -y + y' <= 6; y - y' <= -6")
        self.assertEqual(run_program(read_program(text), {"x": (0, 1), "y": (0, 1)}), {"x": (3, 1), "y": (6, 1)})
        for text in some_texts(237, 15, ["x", "y"], 2, 0):
            inner = " ".join(f"repeat 2 {{ {text} }}".split())
            nested, flat = read_program(f"repeat 3 {{ {inner} }}"), read_program(text) * 6
            self.assertEqual(compiled(["x", "y"], nested), compiled(["x", "y"], flat))
            self.assertEqual(compiled(["x", "y"], nested).ties(), step_ties(["x", "y"], flat))

    def test_either_over_three_names(self):
        text = "either { set x y y } or { set z x+1 x+1 } repeat 2 { either { any y } or { check y<=z } }"
        program = read_program(text)
        step = compiled(self.NAMES, program)
        self.assertEqual(step.ties(), step_ties(self.NAMES, program))
        before = {"x": (1, 1), "y": (2, 1), "z": (3, 1)}
        ends = [((0, 1),), ((1, 1),), ((0, 1), (0, 1), (7, 1)), ((1, 1), (1, 1), (1, 1)), ((1, 1), (1, 1), (0, 1), (-9, 1))]
        for choices in ends:
            after = run_program(program, before, *choices)
            self.assertEqual(after, run_words(text, before, choices))
            self.assertTrue(after is None or step.allows(before, after))
            self.assertTrue(after is None or step.moved(Lot.read(self.NAMES, "x = 1; y = 2; z = 3")).holds(after))
        step = step_of(self.NAMES, "either { set x 1 1 set y 1 2 } or { set x 4 4 set y 5 5 } set z x x+1")
        text = "x' <= 4; -x' <= -1; y' <= 5; -y' <= -1; -x' + y' <= 1; 4*x' - 3*y' <= 1"
        self.assertEqual(step.lot().limited("x'", "y'").text(), text)
        self.assertEqual(step.lot().stretch("z'"), ((1, 1), (5, 1)))


class DeepProgramTest(unittest.TestCase):
    def test_deep_programs_of_three_names(self):
        inner = "set x 1/2*y+1 1/2*z+2 check x<=y+5 either { any y } or { set z x-1 3*x }"
        text = "repeat 4 { repeat 4 { repeat 4 { " + inner + " } } }"
        step = step_of(["x", "y", "z"], text)
        self.assertEqual(step, step.closed())
        half = step_of(["x", "y", "z"], "repeat 4 { repeat 4 { " + inner + " } }")
        self.assertEqual(half.repeated(4), step)
        text = "repeat 4 { repeat 4 { repeat 4 { repeat 4 { set x y+1 y+1 set y z z+1 set z x x check x<=z+1 } } } }"
        found = step_of(["x", "y", "z"], text)
        after = run_program(read_program(text), {"x": (0, 1), "y": (0, 1), "z": (0, 1)})
        self.assertTrue(found.allows({"x": (0, 1), "y": (0, 1), "z": (0, 1)}, after))
        self.assertEqual(program_text(read_program(text)), text.replace("x<=z+1", "x-z<=1"))

    def test_drawn_deep_programs(self):
        for text in some_texts(241, 6, ["x", "y", "z"], 4, 3):
            text = " ".join(f"repeat 4 {{ {text} }}".split())
            step = step_of(["x", "y", "z"], text)
            self.assertEqual(step, step.closed())
            self.assertEqual(step, step_of(["x", "y", "z"], program_text(read_program(text))))

    def test_many_statements(self):
        text = " ".join(["set x x+1 x+1", "set y 1/2*y+1 1/2*y+1"] * 30)
        step = step_of(["x", "y"], text)
        self.assertTrue(step.allows({"x": (0, 1), "y": (2, 1)}, {"x": (30, 1), "y": (2, 1)}))
        self.assertEqual(len(step), 4)


if __name__ == "__main__":
    unittest.main()
