"""Promises 47, 48, 52, 54, 67 and 74 with large calls: six names, forty ties, eight wishes, long texts and many lines."""

import unittest

from tests.plain_boards import dice_of, told, whole
from tests.test_certificates import plainly_derives
from tests.test_large_lots import NAMES, round_ties, ties_around
from tiespan.boards import Board, GuardedBoard
from tiespan.desks import Desk
from tiespan.layouts import granted
from tiespan.lots import Lot
from tiespan.pages import format_board, parse_board, stretch_table
from tiespan.programs import compiled, program_text, read_program, run_program
from tiespan.ties import is_kept, reduced

LABELS = [one + other for one in "abcde" for other in "abcdefgh"]


def large_board(dice, kind=Board, most=10 ** 6, wishes=8):
    """Returns a board of six names with forty ties and some wishes."""
    ties = []
    while len(ties) < 40:
        ties = ties_around(dice, NAMES, 60, most)[:40]
    board = kind(NAMES, limit=40)
    board.apply(*[("tie", label, tie) for label, tie in zip(LABELS, ties)])
    for at, (terms, bound) in enumerate(ties_around(dice, NAMES, 30, 50)[:wishes]):
        board.apply(("wish", "w" + "abcdefgh"[at], terms, bound))
    return board


class LargeBoardTest(unittest.TestCase):
    def test_forty_ties_and_eight_wishes(self):
        for seed in range(4):
            board = large_board(dice_of(seed), [Board, GuardedBoard][seed % 2])
            self.assertEqual((repr(board), board.lot().possible), ("Board(40 ties, 8 wishes)", True))
            values = board.solution()
            self.assertTrue(board.lot().holds(values))
            wishes = [wish[1:] for wish in board.wishes()]
            self.assertEqual([value for wish, value in board.layout().reached()], granted(board.lot(), wishes))
            for one in NAMES:
                for other in NAMES:
                    if one != other:
                        self.assertIn((values[one], values[other]), board.shadow(one, other))
            self.assertEqual((len(board.kept()), board.made), (15, 15))
            board.apply(("first", "wh"), ("drop", "wa"))
            self.assertEqual((len(board.kept()), board.made), (15, 15))
            self.assertEqual(told(lambda: board.apply(("tie", "z", None))), ("CapacityExceeded", 40))
            twin = board.twin()
            self.assertEqual(whole(twin), whole(board))
            twin.apply(*[("drop", label) for label in LABELS[:39]])
            self.assertEqual((len(twin), twin.kept(), len(board.kept())), (1, [], 15))

    def test_ties_of_thirty_digits(self):
        dice = dice_of(5)
        board = GuardedBoard(NAMES, limit=40)
        board.apply(*[("tie", label, tie) for label, tie in zip(LABELS, round_ties(dice, [("a", "b"), ("c", "d"), ("e", "f"), ("b", "c")], 10))])
        self.assertEqual((len(board), board.lot().possible), (40, True))
        text = format_board(board)
        found = parse_board(text)
        self.assertEqual((format_board(found), found.lot().ties()), (text, [reduced(tie) for tie in board.lot().ties()]))
        figure = board.shadow("a", "c")
        self.assertEqual((found.shadow("c", "a").turned(), len(stretch_table(board.lot()).split("\n"))), (figure, 7))
        answer = board.verdict(board.lot().ties()[3])
        self.assertEqual(answer[0], "holds")
        self.assertTrue(plainly_derives(board.lot().ties(), board.lot().ties()[3], answer[1]))
        low = board.lot().stretch("a")[0]
        tie = ((("a", (1, 1)),), low)
        word, values = board.verdict(((("a", (1, 1)),), (low[0] - low[1], low[1])))
        self.assertEqual((word, board.lot().holds(values), is_kept(tie, values)), ("fails", True, values["a"] == low))

    def test_history_of_large_boards(self):
        board = large_board(dice_of(6), wishes=4)
        whole_before = whole(board)
        board.shadow("a", "b")
        for turn in range(40):
            board.apply(("drop", LABELS[turn]), ("tie", LABELS[turn], board.tie(LABELS[turn])))
        self.assertEqual((board.kept(), board.made, board.history()), ([("a", "b")], 1, (45, 0)))
        for turn in range(40):
            board.undo()
        self.assertEqual({**whole(board), "kept": [], "made": 0, "history": None}, {**whole_before, "history": None})
        self.assertEqual(board.history(), (5, 40))

    def test_pages_of_large_boards(self):
        for seed in range(6):
            board = large_board(dice_of(seed + 20), most=10 ** 12)
            text = format_board(board)
            found = parse_board(text)
            self.assertEqual((format_board(found), found.solution()), (text, board.solution()))
            lines = text.split("\n")
            lines[-2] += " "
            self.assertEqual(told(lambda: parse_board("\n".join(lines))), ("ParseError", 48))


class LargeDeskTest(unittest.TestCase):
    def test_many_lines(self):
        dice = dice_of(7)
        board = large_board(dice)
        desk = Desk(board)
        lot = board.lot()
        for turn in range(12):
            for one in NAMES:
                self.assertNotIn(desk("stretch " + one), ("none", "what"))
                self.assertNotIn("error", desk("value " + one))
                self.assertEqual(desk("shadow a " + one).startswith("error"), one == "a")
            tie = dice.choice(lot.ties())
            self.assertEqual((desk("holds " + Lot(NAMES, [tie]).text()), desk("possible")), ("yes", "yes"))
            label = dice.choice(board.labels())
            self.assertEqual((desk("drop " + label), desk("undo"), desk("first wa"), desk("undo")), ("ok",) * 4)
        self.assertEqual((board.lot(), len(desk)), (lot, 12 * 24))

    def test_thousands_of_lines(self):
        desk = Desk.of("a", "b", "c")
        for turn in range(1000):
            self.assertEqual(desk(f"tie t a <= b + {turn}"), "ok")
            self.assertEqual(desk("labels"), "t")
            self.assertEqual(desk("drop t"), "ok")
        self.assertEqual((len(desk), desk.board().history()), (3000, (2000, 0)))
        for turn in range(2000):
            self.assertEqual(desk("undo"), "ok")
        self.assertEqual((desk("undo"), desk.board().history()), ("error NothingLeft", (0, 2000)))


class LongTextTest(unittest.TestCase):
    def test_long_programs(self):
        text = " ".join(["any x"] * 500)
        self.assertEqual((len(text), program_text(read_program(text))), (2999, text))
        self.assertEqual(compiled(["x", "y"], read_program(text)).lot().text(), "-y + y' <= 0; y - y' <= 0")
        self.assertEqual(run_program(read_program(text), {"x": (0, 1)}, *[(at, 1) for at in range(500)]), {"x": (499, 1)})
        self.assertEqual(told(lambda: read_program(text + " any")), ("ParseError", 1001))
        text = "set x " + "+".join(["x", "1"] * 400) + " 9"
        self.assertEqual(program_text(read_program(text)), "set x 400*x+400 9")

    def test_long_blocks(self):
        inner = " ".join(f"set {one} {other}-1 {other}+1" for one, other in ("xy", "yz", "zx") * 4)
        text = "repeat 4 { either { " + inner + " } or { repeat 4 { " + inner + " } } }"
        step = compiled(["x", "y", "z"], read_program(text))
        self.assertEqual(step, step.closed())
        before = {"x": (0, 1), "y": (1, 1), "z": (2, 1)}
        for choices in ([], [(1, 1)] * 300, [(0, 1), (1, 1)] * 200):
            self.assertTrue(step.allows(before, run_program(read_program(text), before, *choices)))


if __name__ == "__main__":
    unittest.main()
