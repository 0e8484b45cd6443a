"""Promises 53 to 55, 67, 73 and 74: pages of boards, and tables of stretches."""

import unittest
from fractions import Fraction

from tests import plain_lots
from tests.plain import pair
from tests.plain_boards import dice_of, told, whole
from tests.plain_lots import bare, kinds, many_lots
from tests.plain_pages import changed_lines, fill, read_page, written_page
from tests.test_boards import ONE, small
from tests.test_layouts import SUM, X
from tests.test_lots import HALVES
from tiespan.boards import Board, GuardedBoard
from tiespan.errors import ParseError
from tiespan.lots import Lot
from tiespan.pages import format_board, parse_board, stretch_table
from tiespan.ties import reduced

SMALL = "names x y\ntie a x - y <= 0\ntie b x - 3*y <= 5\nwish far 9 x + y\nwish near -1/2 x\n"
WRONG = {
    "": 0, "\n": 0, "names": 0, "names x": 0, "Names x\n": 0, " names x\n": 0, "names  x\n": 0, "names x \n": 0, "names \n": 0, "names y x\n": 0,
    "names x x\n": 0, "names X\n": 0, "names abcdefg\n": 0, "names x,y\n": 0, "tie a x <= 1\n": 0, "nam x\n": 0, "names x\n\n": 1, "names x\n ": 1,
    "names x\nnames x\n": 1, "names x\nx <= 1\n": 1, "names x\nties a x <= 1\n": 1, "names x\ntie a x <= 1": 1, "names x\ntie a x <= 1\ntie": 2,
    "names x\ntie  x <= 1\n": 1, "names x\ntie x <= 1\n": 1, "names x\ntie A x <= 1\n": 1, "names x\ntie abcdefghi x <= 1\n": 1,
    "names x\ntie a 2*x <= 2\n": 1, "names x\ntie a 1*x <= 2\n": 1, "names x\ntie a 1/2*x <= 2\n": 1, "names x\ntie a x<=1\n": 1,
    "names x\ntie a x <= 2/4\n": 1, "names x\ntie a x <= 3/1\n": 1, "names x\ntie a x <= -0\n": 1, "names x\ntie a x <= 01\n": 1,
    "names x\ntie a x <= 1/0\n": 1, "names x\ntie a x >= 1\n": 1, "names x\ntie a x = 1\n": 1, "names x\ntie a x <= 1 \n": 1,
    "names x\ntie a  x <= 1\n": 1, "names x\ntie a x  <= 1\n": 1, "names x\ntie a -x <=  1\n": 1, "names x\ntie a 0 <= x\n": 1,
    "names x\ntie a 0*x <= 1\n": 1, "names x\ntie a x <= y\n": 1, "names x\ntie a y <= 1\n": 1, "names x\ntie a x + x <= 1\n": 1,
    "names x\ntie a x <= 1 <= 2\n": 1, "names x\ntie a <= 1\n": 1, "names x\ntie a  <= 1\n": 1, "names x\ntie a x <= \n": 1,
    "names x y\ntie a y + x <= 1\n": 1, "names x y\ntie a x + -y <= 1\n": 1, "names x y\ntie a x - -y <= 1\n": 1,
    "names x y\ntie a x +y <= 1\n": 1, "names x y\ntie a x + y + x <= 1\n": 1, "names x y\ntie a +x + y <= 1\n": 1,
    "names x y\ntie a x * y <= 1\n": 1, "names x y\ntie a x + 1*y <= 1\n": 1, "names x y\ntie a 2*x - 4*y <= 1\n": 1,
    "names x y\ntie a - x + y <= 1\n": 1, "names x y\ntie a -1*x + y <= 1\n": 1, "names x y\ntie a x + y\n": 1, "names x y\ntie a x y <= 1\n": 1,
    "names x\ntie b x <= 1\ntie a x <= 1\n": 2, "names x\ntie a x <= 1\ntie a x <= 2\n": 2, "names x\ntie b x <= 1\ntie ab x <= 1\n": 2,
    "names x\nwish a 1 x\ntie b x <= 1\n": 2, "names x\nwish a 1 x\nwish a 2 x\n": 2, "names x\ntie a x <= 1\nwish a 1 x\n": 2,
    "names x\nwish a x\n": 1, "names x\nwish a  x\n": 1, "names x\nwish a 1\n": 1, "names x\nwish a 1 \n": 1, "names x\nwish 1 x\n": 1,
    "names x\nwish a 2/4 x\n": 1, "names x\nwish a +1 x\n": 1, "names x\nwish a 1  x\n": 1, "names x\nwish a 1 x \n": 1, "names x\nwish a 1 2/4*x\n": 1,
    "names x\nwish a 1 0*x\n": 1, "names x\nwish a 1 1*x\n": 1, "names x\nwish a 1 y\n": 1, "names x\nwish a 1 x + 1\n": 1, "names x\nwish a 1 x+y\n": 1,
    "names x y\nwish a 1 y + x\n": 1, "names x y\nwish a 1 x + y + y\n": 1, "names x y\nwish a x 1\n": 1, "names x\nwish a 1 3/1*x\n": 1,
    "names x\nwish a -0 x\n": 1, "names x\nwish a 1 --x\n": 1, "names x\nwish a 1 x <= 1\n": 1, "names x\nundo\n": 1,
}


def wrong_line(text):
    """Returns the index that parse_board says to be wrong, or None."""
    try:
        parse_board(text)
    except ParseError as error:
        return error.at
    return None


class WrittenTest(unittest.TestCase):
    """Promise 53."""

    def test_lines(self):
        self.assertEqual(format_board(small()), SMALL)
        self.assertEqual(format_board(small(GuardedBoard)), SMALL)
        self.assertEqual(format_board(Board([])), "names\n")
        self.assertEqual(format_board(Board(["y", "x'", "x"])), "names x x' y\n")
        board = Board(["x", "y"])
        board.apply(("wish", "b", (("x", (-1, 2)), ("y", (-2, 3))), (-7, 3)), ("wish", "a", (("y", (-1, 1)),), (0, 1)))
        board.apply(("tie", "c", ((("x", (2, 3)), ("y", (-4, 3))), (6, 1))), ("tie", "abc", ((("y", (-1, 2)),), (1, 4))))
        text = "names x y\ntie abc -y <= 1/2\ntie c x - 2*y <= 9\nwish b -7/3 -1/2*x - 2/3*y\nwish a 0 -y\n"
        self.assertEqual(format_board(board), text)
        board.apply(("first", "a"))
        self.assertTrue(format_board(board).endswith("wish a 0 -y\nwish b -7/3 -1/2*x - 2/3*y\n"))

    def test_there_and_back(self):
        board = parse_board(SMALL)
        self.assertEqual(board.wishes(), [("far", SUM, (9, 1)), ("near", X, (-1, 2))])
        self.assertEqual(board.tie("b"), reduced(HALVES))
        self.assertEqual((board.names(), board.labels(), board.limit), (["x", "y"], ["a", "b", "far", "near"], 40))
        self.assertEqual((board.history(), board.kept(), board.made, board.busy), ((0, 0), [], 0, False))
        self.assertEqual((type(board), format_board(board)), (Board, SMALL))
        for text in ("names\n", "names a b c d e f\n", "names x\n", "names x'\nwish w 3 x'\n"):
            self.assertEqual((wrong_line(text), format_board(parse_board(text))), (None, text))

    def test_drawn_boards(self):
        for seed in range(120):
            dice = dice_of(seed)
            names = dice.sample(["x", "y", "z", "x'", "abcdef", "w'"], dice.randint(1, 6))
            board = dice.choice([Board, GuardedBoard])(names, limit=dice.randint(1, 9))
            fill(dice, board, 15)
            wishes = [wish[0] for wish in board.wishes()]
            ties = {label: board.tie(label) for label in board.labels() if label not in wishes}
            before = whole(board)
            text = format_board(board)
            self.assertEqual(text, written_page(names, ties, board.wishes()))
            found = parse_board(text)
            expected = {**before, "ties": [reduced(tie) for tie in before["ties"]], "limit": 40, "history": (0, 0), "kept": [], "made": 0}
            self.assertEqual(whole(found), expected)
            self.assertEqual((format_board(found), type(found)), (text, Board))
            self.assertEqual(whole(board), before)
            self.assertEqual(told(found.undo), ("NothingLeft",))

    def test_pages_do_not_depend_on_the_calls_before(self):
        """Promise 67."""
        board = small()
        board.apply(("first", "near"), ("drop", "a"), ("tie", "n", HALVES))
        board.undo()
        board.redo()
        board.undo()
        board.solution()
        self.assertEqual(format_board(board), SMALL)

    def test_numbers_of_any_length(self):
        many = int("7" * 29)
        board = Board(["x", "y"])
        board.apply(("tie", "a", ((("x", (many, many - 1)), ("y", (-many - 2, many + 1))), (-many, many + 3))))
        board.apply(("wish", "b", (("x", (1, many)), ("y", (many, 10 ** 29))), (many, 10 ** 29)))
        text = format_board(board)
        self.assertGreater(max(len(word) for word in text.split()), 60)
        found = parse_board(text)
        self.assertEqual((found.tie("a"), found.wishes(), format_board(found)), (reduced(board.tie("a")), board.wishes(), text))

    def test_a_board_that_is_read_goes_on(self):
        board = parse_board(SMALL)
        board.apply(("drop", "a"))
        board.undo()
        self.assertEqual(format_board(board), SMALL)
        board.apply(("tie", "c", ((("x", ONE),), ONE)), ("tie", "d", ((("x", (-1, 1)),), (-2, 1))))
        self.assertEqual(board.lot().possible, False)


class ReadTest(unittest.TestCase):
    """Promise 54."""

    def test_wrong_pages(self):
        for text, at in WRONG.items():
            with self.subTest(text=text):
                self.assertEqual((wrong_line(text), read_page(text)[1]), (at, at))

    def test_error(self):
        with self.assertRaises(ParseError) as caught:
            parse_board("names x\ntie a x <= 1\ntie b y <= 1\n")
        self.assertEqual((caught.exception.at, caught.exception.tag), (2, "ParseError"))

    def test_the_first_wrong_line(self):
        lines = SMALL.split("\n")[:-1]
        for at in range(len(lines)):
            for more in range(at, len(lines)):
                changed = list(lines)
                changed[at], changed[more] = "x " + changed[at], changed[more] + " "
                self.assertEqual(wrong_line("\n".join(changed) + "\n"), at)
            self.assertEqual(wrong_line("\n".join(lines[:at + 1])), at)
            self.assertIsNone(wrong_line("\n".join(lines[:at + 1]) + "\n"))
            self.assertEqual(wrong_line("\n".join(lines[:at + 1]) + "\n\n"), at + 1)
            self.assertEqual(wrong_line("\n".join(lines[:at + 1]) + "\n "), at + 1)

    def test_changed_pages(self):
        counts = {True: 0, False: 0}
        for seed in range(700):
            dice = dice_of(seed)
            board = Board(dice.sample(["x", "y", "z", "x'"], dice.randint(1, 3)))
            fill(dice, board, dice.randint(0, 12))
            lines = format_board(board).split("\n")
            for turn in range(dice.randint(1, 2)):
                lines = changed_lines(dice, lines) or [""]
            text = "\n".join(lines)
            page, wrong = read_page(text)
            self.assertEqual(wrong_line(text), wrong, text)
            counts[wrong is None] += 1
            if wrong is None:
                found = parse_board(text)
                self.assertEqual((found.names(), found.wishes(), len(found)), (page.names, page.wishes, len(page.ties)))
                self.assertEqual([found.tie(label) for label in sorted(page.ties)], [page.ties[label] for label in sorted(page.ties)])
                self.assertEqual(format_board(found), text)
        self.assertGreater(min(counts.values()), 100)

    def test_forty_ties_and_the_forty_first(self):
        """Promise 74."""
        labels = [one + other for one in "abcdef" for other in "abcdefgh"]
        lines = ["names x"] + [f"tie {label} x <= {at}" for at, label in enumerate(labels)]
        for many in (20, 21, 39, 40):
            text = "\n".join(lines[:many + 1]) + "\n"
            self.assertEqual((len(parse_board(text)), format_board(parse_board(text))), (many, text))
        self.assertEqual(wrong_line("\n".join(lines[:42]) + "\n"), 41)
        self.assertEqual(wrong_line("\n".join(lines) + "\nx"), 41)
        self.assertEqual(told(lambda: parse_board("\n".join(lines[:41]) + "\n").apply(("tie", "z", None))), ("CapacityExceeded", 40))

    def test_eight_wishes_and_the_ninth(self):
        """Promise 74."""
        lines = ["names x", "tie z x <= 1"] + [f"wish {label} 1 x" for label in "hgfedcbai"]
        self.assertEqual(len(parse_board("\n".join(lines[:10]) + "\n").wishes()), 8)
        self.assertEqual(wrong_line("\n".join(lines) + "\n"), 10)

    def test_apostrophes(self):
        """Promise 73."""
        text = "names x x' y'\ntie a x - 2*x' <= 1\ntie b -y' <= 0\nwish c 1/2 x' - y'\n"
        self.assertEqual(format_board(parse_board(text)), text)
        self.assertEqual(wrong_line(text.replace("names x x'", "names x' x")), 0)
        self.assertEqual(wrong_line(text.replace("x - 2*x'", "x - 2*x''")), 1)
        self.assertEqual(wrong_line(text.replace("tie a", "tie a'")), 1)


class TableTest(unittest.TestCase):
    """Promises 55 and 73."""

    def test_lines(self):
        lot = Lot.read(["y", "x", "abcdef'", "z"], "x >= -1/2; x <= 2; y <= 1/3; abcdef' >= 10")
        rows = ["abcdef'           10           -", "x               -1/2           2", "y                  -         1/3", "z                  -           -"]
        self.assertEqual(stretch_table(lot), "".join(row + "\n" for row in rows))
        self.assertEqual(stretch_table(Lot([])), "")
        self.assertEqual(stretch_table(Lot.read(["x", "y"], "x <= 1; x >= 2")), "".join(f"{name}               none        none\n" for name in "xy"))
        self.assertEqual(stretch_table(Lot(["x"])), "x                  -           -\n")

    def test_longer_texts_are_written_in_full(self):
        low, top = "-" + "1" * 15, "2" * 12
        self.assertEqual(stretch_table(Lot.read(["x"], f"x >= {low}; x <= {top}")), "x       " + low + top + "\n")
        self.assertEqual(stretch_table(Lot.read(["x"], f"x >= 1/{top}; x <= {top}")), f"x       1/{top}{top}\n")

    def test_drawn_tables(self):
        for lot in list(kinds().values()) + many_lots(251, 80, 3, 5) + many_lots(252, 30, 4, 6):
            expected = ""
            for name in sorted(lot.names()):
                ends = plain_lots.stretch(bare(lot.ties()), name)
                texts = ["none", "none"] if ends is None else ["-" if end is None else str(Fraction(*pair(Fraction(end)))) for end in ends]
                expected += f"{name:<8}{texts[0]:>12}{texts[1]:>12}\n"
            self.assertEqual(stretch_table(lot), expected)


if __name__ == "__main__":
    unittest.main()
