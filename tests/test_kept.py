"""Promises 48 to 52, 67 and 72: kept shadows, twins, guarded boards, verdicts and solutions."""

import unittest

from tests import plain_lots
from tests.plain import same
from tests.plain_boards import PlainBoard, dice_of, some_commands, told, whole
from tests.plain_lots import bare, some_ties
from tests.test_boards import small
from tests.test_layouts import SUM, X, Y
from tests.test_lots import HALVES, NO_NAMES, X_AT_MOST_1
from tests.test_certificates import plainly_derives, plainly_refutes
from tiespan.boards import Board, GuardedBoard
from tiespan.certificates import derive, derives, refutes
from tiespan.errors import Impossible
from tiespan.layouts import granted
from tiespan.lots import Lot
from tiespan.ties import is_kept, read_ties

ONE = (1, 1)


def tie(label, text):
    return ("tie", label, read_ties(text)[0])


def shown(names, text, *pairs):
    """Returns a board with the ties of a text, labelled `a`, `b` and so on, and with kept shadows of pairs of names."""
    board = Board(names)
    for part in text.split("; ") if text else []:
        board.apply(tie("abcdefgh"[len(board)], part))
    for one, other in pairs:
        board.shadow(one, other)
    return board


class ShadowTest(unittest.TestCase):
    def test_both_orders_at_once(self):
        board = shown(["x", "y", "z"], "x <= 2*y + 1; y >= 0; z <= x")
        lot = board.lot()
        self.assertEqual((board.made, board.kept()), (0, []))
        self.assertEqual(board.shadow("y", "x"), lot.shadow("y", "x"))
        self.assertEqual((board.made, board.kept()), (1, [("x", "y")]))
        self.assertEqual(board.shadow("x", "y"), lot.shadow("x", "y"))
        self.assertEqual(board.shadow("y", "x").rows(), lot.shadow("y", "x").rows())
        self.assertEqual((board.made, board.kept()), (1, [("x", "y")]))
        board.shadow("z", "y")
        board.shadow("x", "z")
        self.assertEqual((board.made, board.kept()), (3, [("x", "y"), ("x", "z"), ("y", "z")]))

    def test_errors(self):
        board = shown(["x", "y"], "x <= y", ("x", "y"))
        for one, other, fault in (("z", "w", ("UnknownName", "z")), ("x", "w", ("UnknownName", "w")), ("z", "z", ("UnknownName", "z")),
                                  ("x", "x", ("SameName", "x")), ("y", "y", ("SameName", "y")), ("x'", "x", ("UnknownName", "x'"))):
            self.assertEqual(told(lambda: board.shadow(one, other)), fault)
            self.assertEqual((board.made, board.kept()), (1, [("x", "y")]))
        for wrong in [None, 1, True, (), ("x",), ["x"], []] + NO_NAMES:
            self.assertEqual(repr(told(lambda: board.shadow(wrong, "q"))), repr(("UnknownName", wrong)))
            self.assertEqual(repr(told(lambda: board.shadow("x", wrong))), repr(("UnknownName", wrong)))

    def test_steps_that_keep_the_solutions(self):
        for first, command in (("x <= 1", tie("z", "2*x <= 3")), ("x <= y; y <= 3", tie("z", "x <= 3")), ("x <= 1; x <= 2", ("drop", "b")),
                               ("x <= 1; x <= 1", ("drop", "a")), ("x <= 1", ("wish", "z", X, ONE)), ("x <= 1; x >= 2", tie("z", "y <= 0")),
                               ("x <= 1; x >= 2; y <= 0; y >= 1", ("drop", "d")), ("x <= 1/2*y + 1; y <= 1/2*x + 1", tie("z", "x <= 2"))):
            board = shown(["x", "y"], first, ("x", "y"))
            board.apply(command)
            self.assertEqual((board.kept(), board.made), ([("x", "y")], 1))
            board.undo()
            board.redo()
            self.assertEqual((board.kept(), board.made), ([("x", "y")], 1))
            self.assertEqual(board.shadow("x", "y"), board.lot().shadow("x", "y"))
            self.assertEqual(board.made, 1)

    def test_steps_that_change_the_solutions(self):
        for first, command in (("x <= 1", tie("z", "2*x <= 1")), ("", tie("z", "x <= y")), ("x <= 1; x <= 2", ("drop", "a")), ("x <= 1", ("drop", "a")),
                               ("x <= 1", tie("z", "x >= 2")), ("x <= 1; x >= 2", ("drop", "a")), ("z <= 1", tie("z", "z <= 1/2"))):
            board = shown(["x", "y", "z"], first, ("x", "y"), ("z", "x"))
            board.apply(command)
            self.assertEqual((board.kept(), board.made), ([], 2))
            board.shadow("x", "y")
            self.assertEqual((board.kept(), board.made), ([("x", "y")], 3))
            board.undo()
            self.assertEqual((board.kept(), board.made), ([], 3))
            board.redo()
            self.assertEqual((board.kept(), board.made), ([], 3))

    def test_a_batch_is_one_step(self):
        board = shown(["x", "y"], "x <= 1; y <= 1", ("x", "y"))
        board.apply(("drop", "a"), ("drop", "b"), tie("k", "2*x <= 2"), tie("l", "y <= 1"))
        self.assertEqual((board.kept(), board.made), ([("x", "y")], 1))
        board.apply(("drop", "k"), tie("k", "x <= 2"))
        self.assertEqual((board.kept(), board.made), ([], 1))

    def test_drawn_boards(self):
        kept = lost = 0
        for seed in range(80):
            dice = dice_of(seed)
            names = ["x", "y", "z"][:dice.randint(2, 3)]
            board, plain = Board(names), PlainBoard(names)
            for turn in range(25):
                way = dice.randint(0, 3)
                before = len(plain.shown)
                if way == 0:
                    one, other = dice.sample(names, 2)
                    plain.shadow(one, other)
                    found = board.shadow(one, other)
                    self.assertTrue(same(found, plain_lots.shadow(plain.plain_ties(), one, other)))
                elif way == 1:
                    name = dice.choice(["undo", "redo"])
                    self.assertEqual(told(getattr(board, name)), getattr(plain, name)())
                else:
                    commands = some_commands(dice, names, 2, board.labels())
                    self.assertEqual(repr(told(lambda: board.apply(*commands))), repr(plain.apply(*commands)))
                kept += before > 0 and len(plain.shown) >= before
                lost += len(plain.shown) < before
                self.assertEqual((board.kept(), board.made), (sorted(plain.shown), plain.made))
        self.assertGreater(min(kept, lost), 50)


class TwinTest(unittest.TestCase):
    """Promise 49."""

    def test_all_is_taken_over(self):
        for kind in (Board, GuardedBoard):
            board = small(kind)
            twin = board.twin()
            third = twin.twin()
            for other in (twin, third):
                self.assertIs(type(other), kind)
                self.assertEqual(whole(other), whole(board))
                self.assertEqual((other.kept(), other.made, other.history(), other.limit), ([("x", "y")], 1, (2, 1), 5))
                other.shadow("x", "y")
                self.assertEqual(other.made, 1)

    def test_each_goes_its_own_way(self):
        for kind in (Board, GuardedBoard):
            board = small(kind)
            twin = board.twin()
            before = whole(board)
            twin.apply(("drop", "a"), ("first", "near"), ("wish", "more", Y, ONE))
            twin.limit = 9
            twin.shadow("x", "y")
            twin.undo()
            third = twin.twin()
            third.undo()
            third.undo()
            self.assertEqual(whole(board), before)
            self.assertEqual((third.history(), third.labels(), twin.history()), ((0, 3), [], (2, 1)))
            board.redo()
            self.assertEqual((board.labels(), twin.labels()), (["a", "b", "c", "far", "near"], ["a", "b", "far", "near"]))
            twin.redo()
            self.assertEqual((twin.labels(), board.history(), twin.limit, board.limit), (["b", "far", "more", "near"], (3, 0), 9, 5))

    def test_a_guarded_twin_is_guarded(self):
        board = GuardedBoard(["x"])
        board.apply(tie("a", "x <= 1"))
        for other in (board.twin(), board.twin().twin()):
            self.assertEqual(told(lambda: other.apply(tie("b", "x >= 2"))), ("Impossible",))
        Board(["x"]).twin().apply(tie("a", "x <= 1"), tie("b", "x >= 2"))

    def test_more_ties_than_the_limit(self):
        board = Board(["x"], limit=3)
        board.apply(tie("a", "x <= 1"), tie("b", "x <= 2"))
        board.apply(("drop", "a"))
        board.limit = 1
        board.undo()
        twin = board.twin()
        self.assertEqual((len(twin), twin.limit, twin.history()), (2, 1, (1, 1)))

    def test_drawn_twins(self):
        for seed in range(40):
            dice = dice_of(seed)
            guarded = dice.randint(0, 1) == 1
            pairs = [((GuardedBoard if guarded else Board)(["x", "y"], limit=4), PlainBoard(["x", "y"], 4, guarded))]
            for turn in range(25):
                board, plain = dice.choice(pairs)
                way = dice.randint(0, 5)
                if way == 0 and len(pairs) < 4:
                    pairs.append((board.twin(), plain.twin()))
                elif way == 1:
                    self.assertEqual(told(lambda: board.shadow("y", "x")), plain.shadow("y", "x"))
                elif way == 2:
                    name = dice.choice(["undo", "redo"])
                    self.assertEqual(told(getattr(board, name)), getattr(plain, name)())
                elif way == 3:
                    value = dice.randint(0, 5)
                    self.assertEqual(told(lambda: board.change_limit(value)), plain.change_limit(value))
                else:
                    commands = some_commands(dice, ["x", "y"], 2, board.labels())
                    self.assertEqual(repr(told(lambda: board.apply(*commands))), repr(plain.apply(*commands)))
                for one, other in pairs:
                    self.assertEqual(whole(one), other.whole())


class GuardedTest(unittest.TestCase):
    """Promise 50."""

    def test_impossible_behind_all_commands(self):
        board = GuardedBoard(["x", "y"], limit=3)
        board.apply(tie("a", "x <= 1"), ("wish", "w", X, ONE))
        board.shadow("x", "y")
        before = whole(board)
        with self.assertRaises(Impossible) as caught:
            board.apply(tie("b", "x >= 2"))
        self.assertEqual(caught.exception.tag, "Impossible")
        worse = tie("b", "x >= 2")
        for commands, fault in (((worse,), ("Impossible",)), ((worse, ("wish", "v", Y, ONE)), ("Impossible",)),
                                ((worse, ("drop", "zz")), ("UnknownLabel", "zz")), ((worse, ("tie", "A", 1)), ("InvalidName", "A")),
                                ((worse, worse), ("DuplicateLabel", "b")), ((worse, ("x",)), ("InvalidCommand", "x")),
                                ((worse, ("tie", "c", None)), ("InvalidTie", 2)), ((worse, ("wish", "c", 1, 2)), ("InvalidWish", 1)),
                                ((worse, tie("c", "y <= 0"), tie("d", "y <= 0")), ("CapacityExceeded", 3))):
            self.assertEqual(told(lambda: board.apply(*commands)), fault)
            self.assertEqual(whole(board), before)
        board.apply(worse, ("drop", "a"))
        self.assertEqual((board.labels(), board.history()), (["b", "w"], (2, 0)))
        board.apply(tie("c", "x <= 1"), ("drop", "b"), tie("b", "x <= 3"))
        self.assertEqual((board.labels(), board.lot().possible), (["b", "c", "w"], True))

    def test_a_board_is_not_guarded(self):
        board = Board(["x"])
        board.apply(tie("a", "x <= 1"), tie("b", "x >= 2"))
        self.assertEqual((board.labels(), board.lot().possible), (["a", "b"], False))

    def test_drawn_guarded_boards(self):
        refused = 0
        for seed in range(60):
            dice = dice_of(seed)
            names = ["x", "y", "z"][:dice.randint(1, 3)]
            board, plain = GuardedBoard(names), PlainBoard(names, 20, True)
            for turn in range(20):
                if dice.randint(0, 3) == 0:
                    found = told(board.undo), plain.undo()
                else:
                    ties = some_ties(dice, names, 2) + some_ties(dice, names, 2)
                    commands = [("tie", dice.choice("abcdefgh"), one) for one in ties] + some_commands(dice, names, 1, board.labels())
                    found = told(lambda: board.apply(*commands)), plain.apply(*commands)
                self.assertEqual(repr(found[0]), repr(found[1]))
                refused += found[1] == ("Impossible",)
                self.assertEqual(whole(board), plain.whole())
        self.assertGreater(refused, 30)


class VerdictTest(unittest.TestCase):
    """Promise 51."""

    def test_few(self):
        board = shown(["x", "y"], "x <= 1/2*y + 1; y <= 1/2*x + 1", ("x", "y"))
        before = whole(board)
        word, paper = board.verdict(read_ties("x <= 2")[0])
        self.assertEqual((word, derives(board.lot().ties(), read_ties("x <= 2")[0], paper)), ("holds", True))
        word, values = board.verdict(read_ties("x <= 1")[0])
        self.assertEqual((word, board.lot().holds(values), is_kept(read_ties("x <= 1")[0], values)), ("fails", True, False))
        for text, name in (("z <= 1", "z"), ("x <= z", "z"), ("w <= z", "w"), ("x' <= y", "x'")):
            self.assertEqual(told(lambda: board.verdict(read_ties(text)[0])), ("UnknownName", name))
        board.apply(tie("c", "x >= 3"))
        word, paper = board.verdict(read_ties("y <= -100")[0])
        self.assertEqual((word, refutes(board.lot().ties(), paper)), ("holds", True))
        self.assertEqual(told(lambda: board.verdict(read_ties("z <= 1")[0])), ("UnknownName", "z"))
        board.undo()
        self.assertEqual({**whole(board), "history": None, "kept": None}, {**before, "history": None, "kept": None})

    def test_drawn_verdicts(self):
        words = {"holds": 0, "fails": 0}
        for seed in range(150):
            dice = dice_of(seed)
            names = ["x", "y", "z"][:dice.randint(1, 3)]
            board = Board(names)
            board.apply(*[("tie", "abcdef"[at], one) for at, one in enumerate(some_ties(dice, names, 5))])
            board.shadow("x", "y") if len(names) > 1 else None
            before = whole(board)
            asked = plain_lots.some_tie(dice, names, {name: dice.randint(-2, 2) for name in names})
            word, shown = board.verdict(asked)
            ties = board.lot().ties()
            holds = plain_lots.follows(bare(ties), bare([asked])[0])
            self.assertEqual(word, "holds" if holds else "fails")
            if holds:
                self.assertTrue(plainly_derives(ties, asked, shown) or plainly_refutes(ties, shown))
                self.assertEqual(shown, derive(board.lot(), asked))
            else:
                self.assertTrue(board.lot().holds(shown) and not is_kept(asked, shown))
            words[word] += 1
            shown.clear()
            self.assertEqual(whole(board), before)
            self.assertEqual(board.verdict(asked)[0], word)
        self.assertGreater(min(words.values()), 40)


class SolutionTest(unittest.TestCase):
    """Promises 52 and 67."""

    def test_drawn_solutions(self):
        counts = {True: 0, False: 0}
        for seed in range(200):
            dice = dice_of(seed)
            names = ["x", "y", "z"][:dice.randint(1, 3)]
            board, plain = Board(names), PlainBoard(names)
            for turn in range(dice.randint(2, 20)):
                commands = some_commands(dice, names, 2, board.labels())
                self.assertEqual(repr(told(lambda: board.apply(*commands))), repr(plain.apply(*commands)))
            lot = Lot(names, [plain.ties()[label] for label in sorted(plain.ties())])
            wishes = [wish[1:] for wish in plain.wishes()]
            self.assertEqual((board.lot(), board.layout().lot()), (lot, lot))
            self.assertEqual((board.layout().wishes(), board.wishes()), (wishes, plain.wishes()))
            expected = plain.solution()
            counts[expected is None] += 1
            if expected is None:
                self.assertEqual(told(board.solution), ("Impossible",))
            else:
                self.assertEqual(board.solution(), expected)
                self.assertEqual([value for wish, value in board.layout().reached()], granted(lot, wishes))
            board.solution().clear() if expected is not None else None
            self.assertEqual(whole(board), plain.whole())
        self.assertGreater(min(counts.values()), 10)

    def test_answers_do_not_depend_on_the_calls_before(self):
        for seed in range(30):
            dice = dice_of(seed)
            names = ["x", "y", "z"]
            board = Board(names)
            for turn in range(10):
                told(lambda: board.apply(*some_commands(dice, names, 2, board.labels())))
                told(lambda: board.shadow(*dice.sample(names, 2)))
                told(dice.choice([board.undo, board.redo, board.solution]))
            fresh = Board(names[::-1], limit=40)
            labels = [label for label in board.labels() if label not in [wish[0] for wish in board.wishes()]]
            fresh.apply(*[("tie", label, board.tie(label)) for label in dice.sample(labels, len(labels))])
            fresh.apply(*[("wish", *wish) for wish in board.wishes()])
            self.assertEqual((fresh.lot(), fresh.wishes(), fresh.labels()), (board.lot(), board.wishes(), board.labels()))
            self.assertEqual(told(fresh.solution), told(board.solution))
            if board.lot().possible:
                self.assertEqual(fresh.solution(), board.solution())
            asked = plain_lots.some_tie(dice, names, {name: 0 for name in names})
            self.assertEqual(fresh.verdict(asked), board.verdict(asked))
            for one in names:
                for other in names:
                    if one != other:
                        self.assertEqual(fresh.shadow(one, other).rows(), board.shadow(one, other).rows())


class QuestionTest(unittest.TestCase):
    """Promise 72."""

    def test_questions_change_nothing(self):
        board = small()
        before = whole(board)
        solution = board.solution()
        found = (board.verdict(X_AT_MOST_1), board.verdict(HALVES), board.lot().shadow("x", "y"), board.layout(), board.twin(), "a" in board)
        board.lot().closed()
        board.layout().ask((X, ONE))
        found[0][1].clear()
        found[1][1].clear()
        found[3].move(1)
        found[4].apply(("drop", "a"))
        self.assertEqual((whole(board), board.solution()), (before, solution))
        self.assertEqual(board.layout().wishes(), [(SUM, (9, 1)), (X, (-1, 2))])


if __name__ == "__main__":
    unittest.main()
