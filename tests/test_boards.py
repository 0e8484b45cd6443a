"""Promises 44 to 47, 62, 74 and 77: commands, their errors, histories and limits of boards."""

import unittest

from tests.plain_boards import WRONG_LABELS, PlainBoard, dice_of, some_commands, told, whole
from tests.plain_lots import ANYTHING
from tests.test_layouts import NO_WISHES, SUM, X, Y
from tests.test_lots import HALVES, NO_NAMES, NO_TIES, X_AT_LEAST_2, X_AT_MOST_1, X_BELOW_Y
from tiespan.boards import Board, GuardedBoard
from tiespan.errors import InvalidCommand, InvalidLimit, InvalidName, NothingLeft, UnknownLabel
from tiespan.lots import Lot

ONE = (1, 1)
OTHER = ((("w", ONE),), ONE)
WRONG_COMMANDS = [
    (), ("tie",), ("tie", "a"), ("tie", "a", X_AT_MOST_1, 1), ("wish", "a", X), ("wish", "a", X, ONE, 1), ("first",), ("first", "a", "b"),
    ("drop",), ("drop", "a", 1), ("", "a"), ("Tie", "a", X_AT_MOST_1), ("ties", "a", X_AT_MOST_1), ("undo",), ("drop ", "a"), (None, "a"),
    (3,), (True, "a"), (("tie",), "a", X_AT_MOST_1), (["drop"], "a"), ([], "a"), ((), "a"), (None,), ("limit", 3), (10 ** 29, "a"),
]


def filled(kind=Board, limit=20, wishes=8):
    """Returns a board with a tie `a` and one for each further place below its limit, and with wishes `wa`, `wb` ..

    It has steps to undo and one to redo, and a kept shadow.
    """
    board = kind(["x", "y"], limit=limit)
    for at in range(limit):
        board.apply(("tie", "abcdefghijklmnopqrstuvwxyz"[at], ((("x", ONE),), (at + 1, 1))))
    for letter in "abcdefgh"[:wishes]:
        board.apply(("wish", "w" + letter, SUM, ONE))
    board.apply(("drop", "a"))
    board.undo()
    board.shadow("x", "y")
    return board


def small(kind=Board):
    """Returns a board with two ties and two wishes, a step to redo, and a kept shadow."""
    board = kind(["x", "y"], limit=5)
    board.apply(("tie", "b", HALVES), ("tie", "a", X_BELOW_Y))
    board.apply(("wish", "far", SUM, (9, 1)), ("wish", "near", X, (-1, 2)))
    board.apply(("tie", "c", X_AT_MOST_1))
    board.undo()
    board.shadow("y", "x")
    return board


class HeldTest(unittest.TestCase):
    def test_new_board(self):
        board = Board(["y", "x"])
        self.assertEqual(whole(board), PlainBoard(["x", "y"]).whole())
        self.assertEqual((board.names(), board.labels(), board.wishes(), board.history()), (["x", "y"], [], [], (0, 0)))
        self.assertEqual((board.limit, board.made, board.busy, len(board), Board.MOST), (20, 0, False, 0, 40))
        self.assertEqual((repr(board), board.kept(), board.lot(), board.solution()), ("Board(0 ties, 0 wishes)", [], Lot(["x", "y"]), {"x": (0, 1), "y": (0, 1)}))
        self.assertEqual((Board([]).names(), Board(()).lot(), Board(("b", "a'")).names()), ([], Lot([]), ["a'", "b"]))

    def test_what_commands_add(self):
        board = small()
        self.assertEqual(board.labels(), ["a", "b", "far", "near"])
        self.assertEqual((board.tie("a"), board.tie("b")), (X_BELOW_Y, HALVES))
        self.assertEqual(board.lot(), Lot(["x", "y"], [X_BELOW_Y, HALVES]))
        self.assertEqual(board.wishes(), [("far", SUM, (9, 1)), ("near", X, (-1, 2))])
        self.assertEqual((len(board), repr(board), board.history()), (2, "Board(2 ties, 2 wishes)", (2, 1)))
        self.assertEqual((repr(small(GuardedBoard)), repr(filled(limit=1, wishes=1))), ("Board(2 ties, 2 wishes)", "Board(1 ties, 1 wishes)"))
        self.assertTrue("a" in board and "far" in board and "c" not in board and "" not in board)
        self.assertEqual(board.layout().lot(), board.lot())
        self.assertEqual(board.layout().wishes(), [(SUM, (9, 1)), (X, (-1, 2))])

    def test_first_and_drop(self):
        board = small()
        board.apply(("first", "near"))
        self.assertEqual([wish[0] for wish in board.wishes()], ["near", "far"])
        board.apply(("first", "near"), ("wish", "last", Y, ONE), ("first", "last"), ("first", "far"))
        self.assertEqual([wish[0] for wish in board.wishes()], ["far", "last", "near"])
        board.apply(("drop", "last"), ("drop", "b"))
        self.assertEqual((board.labels(), len(board)), (["a", "far", "near"], 1))
        board.apply(("tie", "last", HALVES), ("wish", "b", SUM, ONE), ("drop", "a"))
        self.assertEqual((board.labels(), board.lot().ties(), len(board.wishes())), (["b", "far", "last", "near"], [HALVES], 3))

    def test_ties_stand_by_their_labels(self):
        board = Board(["x", "y"])
        for label in ("b", "abc", "aa", "ab", "c", "abcdefgh", "a"):
            board.apply(("tie", label, ((("x", ONE),), (len(board), 1))))
        self.assertEqual(board.labels(), ["a", "aa", "ab", "abc", "abcdefgh", "b", "c"])
        self.assertEqual([tie[1][0] for tie in board.lot().ties()], [6, 2, 3, 1, 5, 0, 4])

    def test_unknown_label_of_tie(self):
        board = small()
        for label in WRONG_LABELS + ["c", "far", "near", "z"]:
            self.assertEqual(repr(told(lambda: board.tie(label))), repr(("UnknownLabel", label)))
            self.assertEqual(label in board, label in ("far", "near"))
        with self.assertRaises(UnknownLabel) as caught:
            board.tie("far")
        self.assertEqual((caught.exception.label, caught.exception.tag), ("far", "UnknownLabel"))

    def test_lists_are_new(self):
        """Promise 62."""
        names = ["y", "x"]
        board = Board(names)
        names.append("z")
        board.apply(("tie", "a", X_BELOW_Y), ("wish", "b", X, ONE))
        board.shadow("x", "y")
        before = whole(board)
        for found in (board.names(), board.labels(), board.wishes(), board.kept(), board.lot().ties(), board.layout().wishes()):
            found.clear()
        board.layout().drop(0)
        board.solution().clear()
        self.assertEqual(whole(board), before)
        commands = [("tie", "c", HALVES)]
        board.apply(*commands)
        commands.clear()
        self.assertEqual(board.labels(), ["a", "b", "c"])
        layout = board.layout()
        board.apply(("drop", "b"))
        self.assertEqual(len(layout), 1)


class NewBoardTest(unittest.TestCase):
    """Promises 45 and 47."""

    def test_names(self):
        for kind in (Board, GuardedBoard):
            for wrong in NO_NAMES + ["x", "b"]:
                with self.assertRaises(InvalidName) as caught:
                    kind(["x", "b", wrong, "X"], limit=0)
                self.assertEqual(caught.exception.name, wrong)

    def test_limits(self):
        for kind in (Board, GuardedBoard):
            for limit in ANYTHING + [41, -3, "20", (20,)]:
                if limit != 1 or limit is True:
                    self.assertEqual(repr(told(lambda: kind(["x"], limit=limit))), repr(("InvalidLimit", limit)))
            for limit in (1, 2, 20, 39, 40):
                self.assertEqual(kind(["x"], limit=limit).limit, limit)
        with self.assertRaises(InvalidLimit) as caught:
            Board([], limit=41)
        self.assertEqual((caught.exception.given, caught.exception.tag), (41, "InvalidLimit"))


class CommandErrorTest(unittest.TestCase):
    """Promises 44, 45, 74 and 77: the first error of the list, and everything as before."""

    def check(self, board, fault, *commands):
        before = whole(board)
        self.assertEqual(repr(told(lambda: board.apply(*commands))), repr(fault), commands)
        self.assertEqual(whole(board), before)

    def check_in_batches(self, board, fault, command):
        """Asks for an error alone, and first and later among other commands."""
        self.assertEqual((board.history()[1], board.kept(), board.made), (1, [("x", "y")], 1))
        good = [("first", "wa"), ("first", "wb")]
        self.check(board, fault, command)
        self.check(board, fault, command, *good)
        self.check(board, fault, good[0], command, good[1])
        self.check(board, fault, *good, command)
        self.check(board, fault, command, ("drop", "zzz"))
        self.check(board, ("UnknownLabel", "zzz"), ("drop", "zzz"), command)
        self.check(board, ("InvalidCommand", "x"), command, ("x",))

    def test_errors_of_tie_in_order(self):
        full, open_one = filled(limit=3), filled(limit=3)
        open_one.limit = 4
        for tie in (X_AT_MOST_1, OTHER, None, "x <= 1"):
            for label in WRONG_LABELS:
                for board in (full, open_one):
                    self.check_in_batches(board, ("InvalidName", label), ("tie", label, tie))
            for label in ("a", "c", "wa", "wh"):
                for board in (full, open_one):
                    self.check_in_batches(board, ("DuplicateLabel", label), ("tie", label, tie))
            self.check_in_batches(full, ("CapacityExceeded", 3), ("tie", "new", tie))
        for tie in NO_TIES + [OTHER]:
            self.check_in_batches(open_one, ("InvalidTie", 3), ("tie", "new", tie))

    def test_errors_of_wish_in_order(self):
        full, open_one = filled(limit=2), filled(limit=2, wishes=7)
        for terms, target in ((X, ONE), (X, None), (OTHER[0], ONE), (None, None)):
            for label in WRONG_LABELS:
                for board in (full, open_one):
                    self.check_in_batches(board, ("InvalidName", label), ("wish", label, terms, target))
            for label in ("a", "b", "wa", "wg"):
                for board in (full, open_one):
                    self.check_in_batches(board, ("DuplicateLabel", label), ("wish", label, terms, target))
            self.check_in_batches(full, ("CapacityExceeded", 8), ("wish", "new", terms, target))
        for wish in NO_WISHES:
            terms, target = wish if isinstance(wish, tuple) and len(wish) == 2 else (wish, ONE)
            self.check_in_batches(open_one, ("InvalidWish", 7), ("wish", "new", terms, target))
        for target in ANYTHING:
            if target != (1, 2):
                self.check_in_batches(open_one, ("InvalidWish", 7), ("wish", "new", X, target))

    def test_unknown_labels(self):
        board = filled(limit=2, wishes=3)
        for label in WRONG_LABELS + ["zz", "wd"]:
            self.check_in_batches(board, ("UnknownLabel", label), ("drop", label))
            self.check_in_batches(board, ("UnknownLabel", label), ("first", label))
        for label in ("a", "b"):
            self.check_in_batches(board, ("UnknownLabel", label), ("first", label))

    def test_invalid_commands_come_first(self):
        board = small()
        worse = [("tie", "A", None), ("drop", "zz"), ("wish", "a", None, None), ("first", "b")]
        for command in WRONG_COMMANDS:
            fault = ("InvalidCommand", command[0] if command else None)
            self.check(board, fault, command)
            self.check(board, fault, *worse, command)
            self.check(board, fault, command, *worse)
            self.check(board, fault, ("tie", "new", X_AT_MOST_1), command, ("other",))
        with self.assertRaises(InvalidCommand) as caught:
            board.apply(("drop",))
        self.assertEqual((caught.exception.first, caught.exception.tag), ("drop", "InvalidCommand"))

    def test_errors_behind_earlier_commands_of_the_batch(self):
        board = small()
        tie, wish = ("tie", "n", HALVES), ("wish", "m", X, ONE)
        self.check(board, ("DuplicateLabel", "n"), tie, tie)
        self.check(board, ("DuplicateLabel", "n"), tie, ("wish", "n", None, 1))
        self.check(board, ("DuplicateLabel", "m"), wish, ("tie", "m", None))
        self.check(board, ("UnknownLabel", "a"), ("drop", "a"), ("drop", "a"))
        self.check(board, ("UnknownLabel", "far"), ("drop", "far"), ("first", "far"))
        self.check(board, ("InvalidTie", 3), tie, ("tie", "k", OTHER))
        self.check(board, ("InvalidTie", 1), ("drop", "a"), ("tie", "k", OTHER))
        self.check(board, ("InvalidWish", 3), wish, ("wish", "k", OTHER[0], ONE))
        self.check(board, ("CapacityExceeded", 5), tie, ("tie", "k", HALVES), ("tie", "l", HALVES), ("tie", "o", None))
        board.apply(("drop", "a"), ("tie", "a", HALVES), tie, ("drop", "n"), ("wish", "n", X, ONE), ("first", "n"), ("drop", "n"))
        self.assertEqual((board.labels(), board.lot().ties()), (["a", "b", "far", "near"], [HALVES, HALVES]))

    def test_room_that_a_batch_makes(self):
        board = filled(limit=2)
        board.apply(("drop", "a"), ("tie", "z", HALVES), ("drop", "wa"), ("wish", "z" * 8, X, ONE))
        self.assertEqual((len(board), len(board.wishes()), board.wishes()[-1][0]), (2, 8, "z" * 8))
        self.check(board, ("CapacityExceeded", 2), ("tie", "y", HALVES), ("drop", "z"))
        self.check(board, ("CapacityExceeded", 8), ("wish", "y", X, ONE), ("drop", "wb"))

    def test_usual_limits(self):
        """Promise 74."""
        board = Board(["x", "y"])
        for at in range(20):
            board.apply(("tie", "abcdefghijklmnopqrst"[at], X_AT_LEAST_2))
        self.check(board, ("CapacityExceeded", 20), ("tie", "z", None))
        board = Board(["x", "y"], limit=40)
        labels = [one + other for one in "abcde" for other in "abcdefgh"]
        board.apply(*[("tie", label, X_AT_LEAST_2) for label in labels])
        self.check(board, ("CapacityExceeded", 40), ("tie", "z", None))
        wishes = [("wish", "w" + label, X, ONE) for label in labels[:9]]
        self.check(board, ("CapacityExceeded", 8), *wishes)
        self.check(board, ("CapacityExceeded", 8), *wishes[:8], ("wish", "z", None, None))
        board.apply(*wishes[:8])
        self.check(board, ("CapacityExceeded", 8), wishes[8])
        self.assertEqual((len(board), len(board.wishes())), (40, 8))


class DrawnTest(unittest.TestCase):
    """Promises 44 to 47, against a plain list of states."""

    def test_any_calls(self):
        for seed in range(60):
            dice = dice_of(seed)
            names = ["x", "y", "z"][:dice.randint(1, 3)]
            limit = dice.randint(1, 4)
            board, plain = Board(names, limit=limit), PlainBoard(names, limit)
            faults = 0
            for turn in range(40):
                faults += self.one_call(dice, board, plain) is not None
                self.assertEqual(whole(board), plain.whole())
            self.assertGreater(faults, 0)

    def one_call(self, dice, board, plain):
        way = dice.randint(0, 9)
        if way < 5:
            commands = some_commands(dice, board.names(), 3, board.labels())
            fault, found = plain.apply(*commands), told(lambda: board.apply(*commands))
        elif way == 5:
            value = dice.choice([0, 1, 2, 3, 4, 40, 41, None, True, "3"])
            fault, found = plain.change_limit(value), told(lambda: board.change_limit(value))
        elif way == 6:
            one, other = dice.choice(board.names() + ["w"]), dice.choice(board.names() + [""])
            fault, found = plain.shadow(one, other), told(lambda: board.shadow(one, other))
        else:
            name = dice.choice(["undo", "undo", "redo"])
            fault, found = getattr(plain, name)(), told(getattr(board, name))
        self.assertEqual(repr(found), repr(fault))
        return fault


class HistoryTest(unittest.TestCase):
    """Promises 46 and 47."""

    def test_steps(self):
        board = Board(["x"], limit=3)
        board.apply(("tie", "a", X_AT_MOST_1), ("wish", "w", X, ONE))
        board.apply()
        board.apply(("drop", "a"), ("drop", "w"))
        self.assertEqual((board.history(), board.labels()), ((3, 0), []))
        board.undo()
        self.assertEqual((board.history(), board.labels()), ((2, 1), ["a", "w"]))
        board.undo()
        self.assertEqual((board.history(), board.labels()), ((1, 2), ["a", "w"]))
        board.undo()
        self.assertEqual((board.history(), board.labels(), board.wishes()), ((0, 3), [], []))
        self.assertEqual(told(board.undo), ("NothingLeft",))
        self.assertEqual(board.history(), (0, 3))
        board.redo()
        board.redo()
        self.assertEqual((board.history(), board.labels()), ((2, 1), ["a", "w"]))
        self.assertEqual(told(lambda: board.apply(("drop", "b"))), ("UnknownLabel", "b"))
        self.assertEqual(board.history(), (2, 1))
        board.apply()
        self.assertEqual(board.history(), (3, 0))
        with self.assertRaises(NothingLeft) as caught:
            board.redo()
        self.assertEqual(caught.exception.tag, "NothingLeft")
        self.assertEqual(board.history(), (3, 0))

    def test_calls_return_nothing(self):
        board = small()
        self.assertEqual([board.apply(("drop", "a")), board.undo(), board.redo(), board.change_limit(9), board.apply()], [None] * 5)

    def test_long_history(self):
        board = Board(["x", "y"])
        board.shadow("x", "y")
        for at in range(400):
            board.apply(("tie", "a", ((("x", ONE),), (at, 1))))
            board.apply(("drop", "a"))
        self.assertEqual(board.history(), (800, 0))
        for at in range(799):
            board.undo()
        self.assertEqual((board.history(), board.tie("a")), ((1, 799), ((("x", ONE),), (0, 1))))
        for at in range(798):
            board.redo()
        self.assertEqual((board.history(), board.tie("a")), ((799, 1), ((("x", ONE),), (399, 1))))


class LimitTest(unittest.TestCase):
    """Promise 47."""

    def test_both_ways(self):
        for change in (lambda board, value: board.change_limit(value), lambda board, value: setattr(board, "limit", value)):
            board = small()
            before = whole(board)
            for value in ANYTHING + [41, 1, "5", (5,)]:
                self.assertEqual(repr(told(lambda: change(board, value))), repr(("InvalidLimit", value)))
                self.assertEqual(whole(board), before)
            for value in (2, 40, 3):
                change(board, value)
                self.assertEqual((board.limit, board.history(), board.kept()), (value, (2, 1), [("x", "y")]))

    def test_history_does_not_look_at_it(self):
        board = filled(limit=4, wishes=0)
        board.apply(("drop", "a"), ("drop", "b"), ("drop", "c"))
        board.limit = 1
        board.undo()
        self.assertEqual((len(board), board.limit), (4, 1))
        self.assertEqual(told(lambda: board.apply(("tie", "z", None))), ("CapacityExceeded", 1))
        self.assertEqual(told(lambda: board.change_limit(1)), ("InvalidLimit", 1))
        self.assertEqual(told(lambda: board.change_limit(3)), ("InvalidLimit", 3))
        self.assertEqual(board.limit, 1)
        board.apply(("drop", "a"))
        self.assertEqual(told(lambda: board.apply(("drop", "b"), ("drop", "c"), ("tie", "z", HALVES))), ("CapacityExceeded", 1))
        board.apply(("drop", "b"), ("drop", "c"), ("drop", "d"), ("tie", "z", HALVES))
        self.assertEqual((board.labels(), board.limit), (["z"], 1))
        board.change_limit(4)
        board.undo()
        self.assertEqual((len(board), board.limit, board.history()), (3, 4, (5, 1)))


if __name__ == "__main__":
    unittest.main()
