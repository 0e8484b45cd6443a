"""Promises 61, 62 and 81: arguments by position and by name, lists that change, and what is new in each answer."""

import unittest

from tests.test_lots import HALVES, X_AT_MOST_1, X_BELOW_Y
from tiespan import boards, certificates, desks, figures, layouts, lots, motions, pages, programs, ratios, ties

ONE = (1, 1)
X = (("x", ONE),)
LOT = lots.Lot(["x", "y"], [X_BELOW_Y, X_AT_MOST_1])
WISH = (X, (5, 1))
STEP = motions.Step.stay(["x"])
PROGRAM = (("set", "x", ((0, 1), "", ONE), ((0, 1), "", (3, 1))), ("any", "y"))
SQUARE = figures.Figure([(1, 0, ONE), (-1, 0, ONE), (0, 1, ONE), (0, -1, ONE)])

# Functions, classes and methods with the names of all their arguments and values for these.
CALLS = [
    (ratios.ratio, {"top": 6, "under": -4}), (ratios.is_ratio, {"thing": (1, 2)}), (ratios.add, {"one": ONE, "other": (1, 2)}),
    (ratios.subtract, {"one": ONE, "other": (1, 2)}), (ratios.multiply, {"one": (2, 3), "other": (1, 2)}),
    (ratios.divide, {"one": (2, 3), "other": (1, 2)}), (ratios.is_less, {"one": ONE, "other": (1, 2)}), (ratios.ratio_text, {"one": (1, 2)}),
    (ratios.read_ratio, {"text": "-3/2"}), (ties.is_name, {"text": "x'"}), (ties.is_tie, {"thing": HALVES}), (ties.names_in, {"tie": HALVES}),
    (ties.reduced, {"tie": HALVES}), (ties.is_kept, {"tie": HALVES, "values": {"x": ONE, "y": ONE}}), (ties.tie_text, {"tie": HALVES}),
    (ties.read_ties, {"text": "x = y"}), (figures.Figure, {"rows": [(1, 1, ONE)]}), (figures.Figure.point, {"x": ONE, "y": (2, 1)}),
    (SQUARE.greatest, {"a": 1, "b": -2}), (SQUARE.column, {"x": (1, 2)}), (lots.Lot, {"names": ["y", "x"], "ties": [HALVES]}),
    (lots.Lot.read, {"names": ["x", "y"], "text": "x <= y"}), (LOT.holds, {"values": {"x": ONE, "y": ONE}}), (LOT.stretch, {"name": "x"}),
    (LOT.shadow, {"one": "y", "other": "x"}), (certificates.derive, {"lot": LOT, "tie": X_AT_MOST_1}),
    (certificates.refute, {"lot": lots.Lot.read(["x"], "x <= 0; x >= 1")}),
    (certificates.derives, {"ties": LOT.ties(), "tie": X_AT_MOST_1, "paper": [(1, ONE)]}),
    (certificates.refutes, {"ties": LOT.ties(), "paper": [(1, ONE)]}), (layouts.granted, {"lot": LOT, "wishes": [WISH]}),
    (motions.Step, {"names": ["x"], "ties": [X_AT_MOST_1]}), (motions.Step.stay, {"names": ["x", "y"]}),
    (STEP.allows, {"before": {"x": ONE}, "after": {"x": ONE}}), (STEP.repeated, {"times": 3}), (STEP.moved, {"lot": lots.Lot(["x"])}),
    (programs.read_program, {"text": "any x"}), (programs.program_text, {"program": PROGRAM}),
    (programs.compiled, {"names": ["x", "y"], "program": PROGRAM}), (programs.run_program, {"program": PROGRAM, "values": {"x": ONE, "y": ONE}}),
    (pages.format_board, {"board": boards.Board(["x"])}), (pages.stretch_table, {"lot": LOT}),
]


def board():
    found = boards.Board(["x", "y"], limit=3)
    found.apply(("tie", "a", X_BELOW_Y), ("wish", "w", X, ONE))
    return found


def told(thing):
    """Returns an answer in a form in which answers can be compared."""
    if isinstance(thing, boards.Board):
        return pages.format_board(thing), thing.limit, thing.history(), thing.kept()
    return (thing.board().names(), thing.log()) if isinstance(thing, desks.Desk) else thing


class KeywordTest(unittest.TestCase):
    def test_by_position_and_by_name(self):
        for call, arguments in CALLS:
            names = list(arguments)
            expected = call(*arguments.values())
            for many in range(len(names) + 1):
                given = [arguments[name] for name in names[:many]]
                later = {name: arguments[name] for name in names[many:]}
                self.assertEqual(call(*given, **later), expected)
                self.assertEqual(call(*given, **{name: later[name] for name in list(later)[::-1]}), expected)

    def test_defaults(self):
        self.assertEqual((ratios.ratio(3), ratios.ratio(top=3)), ((3, 1), (3, 1)))
        self.assertEqual((figures.Figure(), figures.Figure(rows=())), (figures.Figure([]), figures.Figure([])))
        self.assertEqual((lots.Lot(["x"]), lots.Lot(names=["x"])), (lots.Lot(["x"], []), lots.Lot(["x"], ())))
        self.assertEqual((motions.Step(["x"]), motions.Step(names=["x"])), (motions.Step(["x"], []), motions.Step(["x"], ())))
        self.assertEqual((boards.Board(["x"]).limit, boards.GuardedBoard(names=["x"]).limit), (20, 20))

    def test_boards(self):
        for kind in (boards.Board, boards.GuardedBoard):
            for found in (kind(["x", "y"], limit=3), kind(limit=3, names=["x", "y"]), kind(names=("y", "x"), limit=3)):
                self.assertEqual((found.names(), found.limit), (["x", "y"], 3))
            with self.assertRaises(TypeError):
                kind(["x"], 3)
        self.assertEqual((board().tie(label="a"), board().shadow(other="x", one="y")), (X_BELOW_Y, board().shadow("y", "x")))
        self.assertEqual((board().verdict(tie=HALVES)[0], board().change_limit(value=5)), ("fails", None))

    def test_layouts(self):
        layout = layouts.Layout(LOT, WISH, (X, ONE), (X, (0, 1)))
        layout.move(2)
        self.assertEqual(layout.wishes(), [(X, (0, 1)), WISH, (X, ONE)])
        layout.move(0, to=2)
        layout.move(to=0, at=1)
        self.assertEqual(layout.wishes(), [(X, ONE), WISH, (X, (0, 1))])
        layout.drop(at=1)
        layout.ask(wish=WISH)
        self.assertEqual(layout.wishes(), [(X, ONE), (X, (0, 1)), WISH])
        with self.assertRaises(TypeError):
            layout.move(0, 1)

    def test_pages_and_desks(self):
        text = pages.format_board(board())
        self.assertEqual(told(pages.parse_board(text=text)), told(pages.parse_board(text)))
        one = desks.Desk(board=board())
        self.assertEqual((one.ask(line="labels"), one(line="possible"), desks.Desk.of("y", "x").board().names()), ("a w", "yes", ["x", "y"]))
        self.assertEqual(programs.run_program(PROGRAM, {"x": ONE, "y": ONE}, ONE, (7, 1)), {"x": (2, 1), "y": (7, 1)})


class NewTest(unittest.TestCase):
    """Promise 62."""

    def test_equal_calls_return_equal_and_new_results(self):
        for call, arguments in CALLS:
            found, again = call(**arguments), call(**arguments)
            self.assertEqual(found, again)
            if isinstance(found, (list, dict)):
                self.assertIsNot(found, again)
                found.clear()
                self.assertEqual(call(**arguments), again)

    def test_arguments_stay_as_they_are(self):
        for call, arguments in CALLS:
            before = repr(arguments)
            call(**arguments)
            self.assertEqual(repr(arguments), before)

    def test_tuples_in_the_place_of_lists(self):
        for call, arguments in CALLS:
            for name, value in arguments.items():
                if isinstance(value, list):
                    self.assertEqual(call(**{**arguments, name: tuple(value)}), call(**arguments))

    def test_changed_lists_and_dicts(self):
        names, bonds, values, wishes = ["x", "y"], [X_BELOW_Y], {"x": ONE, "y": (2, 1)}, [WISH]
        program = [("any", "x")]
        lot, step = lots.Lot(names, bonds), motions.Step(names, bonds)
        layout, found = layouts.Layout(lot, *wishes), boards.Board(names)
        step_of_program, run = programs.compiled(names, program), programs.run_program(program, values, (9, 1))
        for thing in (names, bonds, values, wishes, program):
            thing.clear()
        self.assertEqual((lot.names(), lot.ties(), step.names(), step.ties()), (["x", "y"], [X_BELOW_Y], ["x", "y"], [X_BELOW_Y]))
        self.assertEqual((layout.wishes(), found.names(), step_of_program.names(), run), ([WISH], ["x", "y"], ["x", "y"], {"x": (9, 1), "y": (2, 1)}))

    def test_lists_of_objects_are_new(self):
        found = board()
        desk = desks.Desk(found)
        desk("labels")
        for ask in (found.names, found.labels, found.wishes, found.kept, found.solution, found.lot().ties, found.layout().wishes, desk.log,
                    STEP.ties, STEP.names, LOT.names, LOT.ties, LOT.solution, SQUARE.rows, SQUARE.corners):
            first = ask()
            self.assertIsNot(ask(), first)
            first.clear()
            self.assertEqual(len(ask()) > 0, ask != found.kept)


if __name__ == "__main__":
    unittest.main()
