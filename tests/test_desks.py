"""Promises 56 to 58, 67, 69, 72 and 73: the answers of desks, held against a plain reading of lines."""

import unittest

from tests.plain_boards import WRONG_LABELS, dice_of, told, whole
from tests.plain_desks import TERMS, TEXTS, WORDS, desk_of, some_line
from tests.test_lots import NO_NAMES
from tiespan.boards import Board, GuardedBoard
from tiespan.desks import Desk
from tiespan.errors import InvalidName
from tiespan.pages import format_board, parse_board, stretch_table


def told_desk(*lines):
    """Returns a desk of x, y and z that was told some lines."""
    desk = Desk.of("x", "y", "z")
    for line in lines:
        assert desk.ask(line) == "ok", line
    return desk


class Asking(unittest.TestCase):
    def check(self, desk, answers):
        for line, answer in answers:
            with self.subTest(line=line):
                self.assertEqual(desk.ask(line), answer)


class DeskTest(Asking):
    """Promise 56."""

    def test_commands(self):
        desk = Desk.of("x", "y")
        lines = [
            ("tie a x <= 1/2*y + 1", "ok"), ("tie b y<=1/2*x+1", "ok"), ("tie b y <= 1", "error DuplicateLabel"), ("tie B y <= 1", "error InvalidName"),
            ("tie c z <= 1", "error InvalidTie"), ("wish far 10 x + y", "ok"), ("wish a 1 x", "error DuplicateLabel"), ("wish far' 1 x", "error InvalidName"),
            ("wish w 1 z", "error InvalidWish"), ("wish near -1/2 2*x - y", "ok"), ("first near", "ok"), ("first a", "error UnknownLabel"),
            ("first zz", "error UnknownLabel"), ("drop zz", "error UnknownLabel"), ("drop b", "ok"), ("undo", "ok"), ("undo", "ok"), ("redo", "ok"),
            ("redo", "ok"), ("redo", "error NothingLeft"), ("drop near", "ok"), ("drop near", "error UnknownLabel"),
        ]
        self.check(desk, lines)
        self.assertEqual((desk.log(), len(desk)), (lines, 22))
        self.assertEqual((desk.board().labels(), desk.board().history()), (["a", "far"], (7, 0)))
        for turn in range(7):
            self.assertEqual(desk("undo"), "ok")
        self.check(desk, [("undo", "error NothingLeft"), ("labels", "none")])
        self.assertEqual((desk.board().history(), len(desk)), ((0, 7), 31))

    def test_calls_and_log(self):
        desk = Desk.of("x")
        self.assertEqual((desk.log(), len(desk)), ([], 0))
        self.assertEqual((desk("tie a x <= 1"), desk.ask(line="labels"), desk(line="what is it")), ("ok", "a", "what"))
        log = desk.log()
        self.assertEqual(log, [("tie a x <= 1", "ok"), ("labels", "a"), ("what is it", "what")])
        log.clear()
        self.assertEqual(len(desk), 3)

    def test_two_desks_of_one_board(self):
        board = Board(["x", "y"])
        one, other = Desk(board), Desk(board=board)
        self.assertIs(one.board(), board)
        self.check(one, [("tie a x <= 1", "ok"), ("shadow x y", "x <= 1")])
        self.check(other, [("tie a x <= 2", "error DuplicateLabel"), ("labels", "a"), ("undo", "ok"), ("labels", "none"), ("shadow y x", "all")])
        self.check(one, [("labels", "none"), ("redo", "ok")])
        board.apply(("drop", "a"))
        self.check(other, [("redo", "error NothingLeft"), ("undo", "ok"), ("stretch x", "- 1")])
        self.assertEqual((len(one), len(other), board.made, board.kept()), (4, 8, 2, []))

    def test_limits(self):
        """Promise 74."""
        desk = Desk.of("x")
        for letter in "abcdefghijklmnopqrst":
            self.assertEqual(desk(f"tie {letter} x <= 1"), "ok")
        self.check(desk, [("tie u x <= 1", "error CapacityExceeded"), ("tie u y <= 1", "error CapacityExceeded"), ("tie a y <= 1", "error DuplicateLabel"),
                          ("tie u x <", "error ParseError"), ("tie U x <= 1", "error InvalidName")])
        for letter in "abcdefgh":
            self.assertEqual(desk(f"wish w{letter} 1 x"), "ok")
        self.check(desk, [("wish wi 1 x", "error CapacityExceeded"), ("wish wi 1 y", "error CapacityExceeded"), ("wish wa 1 y", "error DuplicateLabel"),
                          ("wish wi 1 x + 1", "error NotTied"), ("wish wi x x", "error ParseError")])
        self.assertEqual(desk.board().limit, 20)


class AnswerTest(Asking):
    """Promise 57."""

    def test_answers(self):
        desk = told_desk("tie b x <= 1/2*y + 1", "tie a y <= 1/2*x + 1", "wish w 5 x", "wish v -3/2 y")
        self.check(desk, [
            ("labels", "a b v w"), ("possible", "yes"), ("stretch x", "- 2"), ("stretch z", "- -"), ("stretch w", "error UnknownName"),
            ("value x", "2"), ("value y", "2"), ("value z", "0"), ("value q", "error UnknownName"), ("shadow x z", "x <= 2"), ("shadow z x", "x <= 2"),
            ("shadow x y", "-x + 2*y <= 2; 2*x - y <= 2"), ("shadow y x", "2*x - y <= 2; -x + 2*y <= 2"), ("shadow x x", "error SameName"),
            ("shadow q x", "error UnknownName"), ("shadow x q", "error UnknownName"), ("holds x <= 2", "yes"), ("holds x <= 3/2", "no"),
            ("holds x + y <= 4", "yes"), ("holds x = y", "no"), ("holds z <= 1", "no"), ("holds q <= 1", "error UnknownName"),
            ("holds x <= q", "error UnknownName"), ("holds 3*y <= 6 + x - x", "yes"), ("holds 2*x - y <= 2", "yes"), ("holds 5 >= y", "yes"),
        ])
        self.check(desk, [("drop w", "ok"), ("value y", "-3/2"), ("value x", "0"), ("drop v", "ok"), ("drop a", "ok"), ("drop b", "ok"), ("labels", "none"),
                          ("shadow x y", "all"), ("stretch x", "- -"), ("holds x <= 2", "no"), ("tie a x >= 1/3", "ok"), ("stretch x", "1/3 -"),
                          ("tie b x <= 1/3", "ok"), ("holds x = 1/3", "yes"), ("holds 1/3 = x", "yes"), ("shadow y x", "x <= 1/3; -x <= -1/3"),
                          ("stretch x", "1/3 1/3"), ("value x", "1/3")])

    def test_without_a_solution(self):
        desk = told_desk("tie a x <= 1", "tie b x >= 2", "wish w 1 y")
        self.check(desk, [
            ("possible", "no"), ("stretch x", "none"), ("stretch y", "none"), ("stretch q", "error UnknownName"), ("value x", "error Impossible"),
            ("value q", "error UnknownName"), ("shadow x y", "none"), ("shadow y z", "none"), ("shadow q x", "error UnknownName"),
            ("shadow y y", "error SameName"), ("holds y <= -100", "yes"), ("holds y = z", "yes"), ("holds q <= 1", "error UnknownName"),
            ("holds x <= q", "error UnknownName"), ("labels", "a b w"),
        ])

    def test_a_point(self):
        desk = told_desk("tie a x <= 1", "tie b x >= 1", "tie c y <= -1/2", "tie d y >= -1/2")
        self.check(desk, [("shadow x y", "x <= 1; y <= -1/2; -x <= -1; -y <= 1/2"), ("shadow y x", "y <= -1/2; x <= 1; -y <= 1/2; -x <= -1")])
        self.assertEqual(desk.board().made, 1)

    def test_only_the_shadow_line_keeps(self):
        """Promise 72."""
        desk = told_desk("tie a x <= 1", "wish w 1 y")
        before = whole(desk.board())
        for line in ("labels", "possible", "stretch x", "value y", "holds x <= 1", "holds x <= 0", "what", "stretch q", "tie a x <= 1", "shadow x q"):
            desk(line)
            self.assertEqual(whole(desk.board()), before)
        desk("shadow x y")
        self.assertEqual(whole(desk.board()), {**before, "kept": [("x", "y")], "made": 1})
        desk("shadow y x")
        self.assertEqual(whole(desk.board()), {**before, "kept": [("x", "y")], "made": 1})

    def test_drawn_lines(self):
        answers = {}
        for seed in range(250):
            dice = dice_of(seed)
            guarded = dice.randint(0, 3) == 0
            desk = Desk((GuardedBoard if guarded else Board)(["x", "y", "z"]))
            plain = desk_of(["x", "y", "z"], guarded)
            for turn in range(40):
                line = some_line(dice)
                answer = plain.ask(line)
                self.assertEqual(desk.ask(line), answer, (line, desk.log()))
                self.assertEqual(whole(desk.board()), plain.held.whole())
                answers[answer] = answers.get(answer, 0) + 1
            self.assertEqual(desk.log(), plain.lines)
        for answer in ("ok", "what", "none", "all", "yes", "no", "- -", "error ParseError", "error NotTied", "error UnknownName", "error UnknownLabel",
                       "error DuplicateLabel", "error InvalidName", "error NothingLeft", "error Impossible", "error InvalidTie", "error InvalidWish"):
            self.assertGreater(answers.get(answer, 0), 2, answer)


class LineTest(Asking):
    """Promises 58 and 69."""

    def test_lines_of_no_form(self):
        desk = Desk.of("x", "y")
        for line in ("", " ", "  ", "x", "Tie a x <= 1", "tie", "tie a", "tie ", "wish", "wish a", "wish a 1", "wish ", "wish a ", "drop", "drop ", "drop a b",
                     "drop a ", "drop  a", " drop a", "first", "first ", "first a b", "undo ", " undo", "undo a", "undo  ", "redo ", "redo a", "labels ",
                     "labels a", "possible ", "possible x", "stretch", "stretch ", "stretch x y", "stretch x ", "value", "value ", "value x y", "shadow", "shadow ",
                     "shadow x", "shadow x ", "shadow  x", "shadow x y z", "shadow x  y", "shadow x y ", "holds", "tie  x <= 1", "tie  ", "tie  <", "wish  1 x",
                     "wish a  x", "wish a  ", "wish   ", "wish  1 x + 1", "wish a  x + 1", "history", "kept", "limit 3", "what", "names x", "tie a x = 1",
                     "tie a 1 = x + y", "tie A x = 1", "tie abcdefghi x=y", "ties a x <= 1", "tie\ta x", "apply", "repeat 2 { }"):
            with self.subTest(line=line):
                self.assertEqual((desk(line), desk_of(["x", "y"]).ask(line)), ("what", "what"))
        self.assertEqual((desk.board().history(), desk.board().labels()), ((0, 0), []))

    def test_errors_of_texts(self):
        desk = Desk.of("x", "y")
        self.check(desk, [
            ("tie a ", "error ParseError"), ("tie a  ", "error ParseError"), ("tie a x", "error ParseError"), ("tie a x <", "error ParseError"),
            ("tie a x < 1", "error ParseError"), ("tie a x <= 2/4", "error ParseError"), ("tie a x <= x", "error NotTied"), ("tie a 1 <= 2", "error NotTied"),
            ("tie a x + y <= z", "error NotTied"), ("tie a x = x", "error NotTied"), ("tie a x = y + z", "error NotTied"), ("tie a x = ", "error ParseError"),
            ("tie A x <", "error ParseError"), ("tie A x <= x", "error NotTied"), ("tie A x <= 1", "error InvalidName"), ("tie a' z <= 1", "error InvalidName"),
            ("tie a z <= 1", "error InvalidTie"), ("tie a x <= x'", "error InvalidTie"), ("wish a 1 ", "error ParseError"), ("wish a 1  ", "error ParseError"),
            ("wish a 1 x +", "error ParseError"), ("wish a 1 x <= 1", "error ParseError"), ("wish a 1 1", "error NotTied"), ("wish a 1 x - x", "error NotTied"),
            ("wish a 1 x + 1", "error NotTied"), ("wish a 1 x + y + z", "error NotTied"), ("wish a x x", "error ParseError"), ("wish a 2/4 x", "error ParseError"),
            ("wish a 01 x", "error ParseError"), ("wish a +1 x", "error ParseError"), ("wish a -0 x", "error ParseError"), ("wish a x x + 1", "error NotTied"),
            ("wish a x ", "error ParseError"), ("wish A x x", "error ParseError"), ("wish A 1 1", "error NotTied"), ("wish A 1 x", "error InvalidName"),
            ("wish a 1 z", "error InvalidWish"), ("holds ", "error ParseError"), ("holds  ", "error ParseError"), ("holds x", "error ParseError"),
            ("holds x <= x", "error NotTied"), ("holds x = x", "error NotTied"), ("holds x + y + z <= 1", "error NotTied"), ("holds z <= 1", "error UnknownName"),
            ("holds x = z", "error UnknownName"), ("holds x' <= 1", "error UnknownName"), ("holds x <= 1 ", "no"), ("holds  x <= 1", "no"),
            ("drop A", "error UnknownLabel"), ("first a'", "error UnknownLabel"), ("stretch X", "error UnknownName"), ("value '", "error UnknownName"),
            ("shadow x' X", "error UnknownName"), ("wish a " + "9" * 40 + "/7 x", "ok"), ("tie b x <= " + "9" * 31, "error ParseError"),
        ])
        self.assertEqual(desk.board().labels(), ["a"])

    def test_texts_of_any_form(self):
        for text, written in (("x<=1", "x <= 1"), ("  x  <=  1  ", "x <= 1"), ("1>=x", "x <= 1"), ("x >= 1", "-x <= -1"), ("x+y<=y+1", "x <= 1"),
                              ("2*x+2*y<=4", "x + y <= 2"), ("y+x<=0", "x + y <= 0"), ("1/2*x<=1/3*y", "3*x - 2*y <= 0"), ("x+x-y>=1+1", "-2*x + y <= -2"),
                              ("0<=x", "-x <= 0"), ("- x - 3 <= 2 - y", "-x + y <= 5"), ("0*z+x<=z-z", "x <= 0"), ("3 - x >= 2*x - y", "3*x - y <= 3")):
            desk = Desk.of("x", "y")
            self.assertEqual(desk("tie a " + text), "ok")
            self.assertEqual(format_board(desk.board()), f"names x y\ntie a {written}\n")
            self.assertEqual(desk("holds " + text), "yes")
        for text, written in (("x", "x"), (" x ", "x"), ("x+x", "2*x"), ("y-x", "-x + y"), ("-y", "-y"), ("2*x - 1/2*y", "2*x - 1/2*y"), ("x+y-x", "y"),
                              ("x + 1 - 1", "x"), ("4*x+2*y", "4*x + 2*y"), ("0*z + y", "y"), ("1/2*x+1/2*x", "x"), ("0 - x", "-x")):
            desk = Desk.of("x", "y")
            self.assertEqual(desk("wish a -1/3 " + text), "ok")
            self.assertEqual(format_board(desk.board()), f"names x y\nwish a -1/3 {written}\n")

    def test_all_words_in_all_places(self):
        for words in [("tie", one, text) for one in WORDS for text in TEXTS] + [("wish", one, other, text) for one in WORDS[:13] for other in WORDS for text in TERMS]:
            line = " ".join(words)
            self.assertEqual(Desk.of("x", "y", "z").ask(line), desk_of(["x", "y", "z"]).ask(line), line)
        for line in ["holds " + text for text in TEXTS + TERMS] + [f"{word} {one}" for word in ("stretch", "value", "drop", "first") for one in WORDS]:
            self.assertEqual(Desk.of("x", "y", "z").ask(line), desk_of(["x", "y", "z"]).ask(line), line)
        for line in [f"shadow {one} {other}" for one in WORDS for other in WORDS]:
            self.assertEqual(Desk.of("x", "y", "z").ask(line), desk_of(["x", "y", "z"]).ask(line), line)

    def test_names_of_new_desks(self):
        for wrong in NO_NAMES + ["x"]:
            with self.assertRaises(InvalidName) as caught:
                Desk.of("x", "y", wrong, "y")
            self.assertEqual((caught.exception.name, caught.exception.tag), (wrong, "InvalidName"))
        desk = Desk.of("y", "x'")
        self.assertEqual((desk.board().names(), desk.board().limit, type(desk.board()), type(desk)), (["x'", "y"], 20, Board, Desk))
        self.assertEqual((Desk.of().board().names(), Desk.of()("labels"), Desk.of()("possible")), ([], "none", "yes"))

    def test_labels_of_any_kind(self):
        desk = Desk.of("x")
        for label in WRONG_LABELS:
            if isinstance(label, str) and label and " " not in label and "\n" not in label:
                self.check(desk, [(f"tie {label} x <= 1", "error InvalidName"), (f"drop {label}", "error UnknownLabel")])


class GuardedDeskTest(Asking):
    """Promises 67 and 73."""

    def test_guarded(self):
        desk = Desk(GuardedBoard(["x'", "x"]))
        self.check(desk, [
            ("tie a x' <= 2*x", "ok"), ("tie b x <= 1", "ok"), ("tie c x' >= 3", "error Impossible"), ("labels", "a b"), ("stretch x'", "- 2"),
            ("tie c x' >= 2", "ok"), ("value x'", "2"), ("shadow x x'", "x <= 1; x' <= 2; -x <= -1; -x' <= -2"), ("holds x' = 2*x", "yes"),
            ("wish w 1/2 x - x'", "ok"), ("possible", "yes"),
        ])
        self.assertEqual(format_board(desk.board()), "names x x'\ntie a -2*x + x' <= 0\ntie b x <= 1\ntie c -x' <= -2\nwish w 1/2 x - x'\n")
        self.assertEqual(stretch_table(desk.board().lot()), "x                  1           1\nx'                 2           2\n")
        self.assertEqual(told(lambda: desk.board().apply(("drop", "q"))), ("UnknownLabel", "q"))
        plain = parse_board(format_board(desk.board()))
        self.assertEqual((type(plain), Desk(plain)("tie d x' >= 3"), Desk(plain)("possible")), (Board, "ok", "no"))

    def test_answers_do_not_depend_on_the_lines_before(self):
        for seed in range(25):
            dice = dice_of(seed)
            desk = Desk.of("x", "y", "z")
            for turn in range(40):
                desk(some_line(dice))
            fresh = Desk(parse_board(format_board(desk.board())))
            for line in ["labels", "possible"] + [f"{word} {name}" for word in ("stretch", "value") for name in "xyz"] + ["holds " + text for text in TEXTS]:
                self.assertEqual(fresh(line), desk(line))
            for line in [f"shadow {one} {other}" for one in "xyz" for other in "xyz"]:
                self.assertEqual(fresh(line), desk(line))

    def test_many_lines(self):
        desk, plain = Desk.of("x", "y", "z"), desk_of(["x", "y", "z"])
        dice = dice_of(991)
        for turn in range(1500):
            line = some_line(dice)
            self.assertEqual(desk(line), plain.ask(line))
        self.assertEqual((len(desk), desk.log()), (1500, plain.lines))


if __name__ == "__main__":
    unittest.main()
