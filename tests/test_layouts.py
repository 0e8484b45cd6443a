"""Promises 30 to 33 and 78: wishes are granted in order, and what a layout holds behind any calls."""

import inspect
import random
import unittest
from fractions import Fraction

from tests import plain_lots
from tests.plain import pair
from tests.plain_lots import ANYTHING, bare, kinds, many_lots
from tests.test_certificates import plainly_derives, plainly_refutes
from tiespan.certificates import derive, refute
from tiespan.errors import Impossible, InvalidWish
from tiespan.layouts import Layout, granted
from tiespan.lots import Lot
from tiespan.ties import read_ties

X, Y = (("x", (1, 1)),), (("y", (1, 1)),)
SUM = (("x", (1, 1)), ("y", (1, 1)))
SLOPE = (("x", (-1, 2)), ("y", (2, 3)))
SQUARE = Lot.read(["x", "y"], "x >= 0; x <= 1; y >= 0; y <= 1")
NOTHING = Lot.read(["x", "y"], "x <= y - 1; y <= x")

NO_WISHES = ANYTHING + [
    [X, (1, 1)], (X, 1), (X, (2, 4)), (X, (1, 0)), (X, None), (list(X), (1, 1)), (("x", (1, 1)), (1, 1)), ((), (1, 1)),
    ((("x", (0, 1)),), (1, 1)), ((("y", (1, 1)), ("x", (1, 1))), (1, 1)), ((("x", (1, 1)), ("x", (1, 1))), (1, 1)),
    ((("z", (1, 1)),), (1, 1)), ((("x", (1, 1)), ("z", (1, 1))), (1, 1)), ((("X", (1, 1)),), (1, 1)), (X, (1, 1), (1, 1)),
    (X, (True, 1)), ((["x", (1, 1)],), (1, 1)), (X, "1"), ("x", (1, 1)),
]


def some_wishes(dice, names, most):
    return [plain_lots.some_tie(dice, names, {name: 0 for name in names}) for turn in range(dice.randint(0, most))]


def refused(do):
    """Returns the index that a call says to be wrong."""
    try:
        do()
    except InvalidWish as error:
        return error.at
    return None


class GrantedTest(unittest.TestCase):
    def test_few(self):
        self.assertEqual(granted(SQUARE, []), [])
        self.assertEqual(granted(SQUARE, [(SUM, (5, 1)), (X, (0, 1))]), [(2, 1), (1, 1)])
        self.assertEqual(granted(SQUARE, [(X, (0, 1)), (SUM, (5, 1))]), [(0, 1), (1, 1)])
        self.assertEqual(granted(SQUARE, ((SUM, (1, 2)), (X, (1, 1)), (Y, (1, 3)))), [(1, 2), (1, 2), (0, 1)])
        self.assertEqual(granted(SQUARE, [(SLOPE, (-9, 1)), (SLOPE, (9, 1))]), [(-1, 2), (-1, 2)])
        self.assertEqual(granted(Lot(["x", "y"]), [(SLOPE, (10 ** 20, 7)), (X, (-5, 3))]), [(10 ** 20, 7), (-5, 3)])
        self.assertEqual(granted(Lot([]), []), [])

    def test_against_elimination(self):
        dice = random.Random(1)
        lots = [lot for lot in kinds().values() if lot.names()]
        lots += many_lots(111, 30, 1, 4) + many_lots(112, 80, 2, 6) + many_lots(113, 80, 3, 7) + many_lots(114, 20, 4, 7)
        impossible = 0
        for lot in lots:
            wishes = some_wishes(dice, lot.names(), 4)
            values = plain_lots.granted(bare(lot.ties()), bare(wishes))
            if values is None:
                impossible += 1
                with self.assertRaises(Impossible):
                    granted(lot, wishes)
            else:
                values = [pair(Fraction(value)) for value in values]
                self.assertEqual(granted(lot, wishes), values)
                self.assertEqual(list(Layout(lot, *wishes).reached()), list(zip(wishes, values)))
        self.assertGreater(impossible, 20)

    def test_solution_against_elimination(self):
        dice = random.Random(2)
        for lot in many_lots(115, 50, 2, 5) + many_lots(116, 50, 3, 5):
            wishes = some_wishes(dice, lot.names(), 2)
            ties = bare(lot.ties())
            values = plain_lots.granted(ties, bare(wishes))
            if values is not None:
                for (rates, target), value in zip(bare(wishes), values):
                    ties = ties + plain_lots.at_value(rates, value)
                expected = plain_lots.solution(ties, lot.names(), {})
                found = Layout(lot, *wishes).solution()
                self.assertEqual(found, {name: pair(Fraction(value)) for name, value in expected.items()})

    def test_nothing_nearer_is_possible(self):
        """What is a bit nearer to the target has a certificate against it, behind the values of the wishes before."""
        dice = random.Random(3)
        many = 0
        for lot in many_lots(117, 80, 3, 7):
            wishes = some_wishes(dice, lot.names(), 4)
            if not lot.possible:
                continue
            ties = lot.ties()
            for (terms, target), value in zip(wishes, granted(lot, wishes)):
                less = tuple((name, (-rate[0], rate[1])) for name, rate in terms)
                if value != target:
                    many += 1
                    above = Fraction(*value) < Fraction(*target)
                    beyond = Fraction(*value) + Fraction(1 if above else -1, 10 ** 9)
                    nearer = (less, pair(-beyond)) if above else (terms, pair(beyond))
                    against = Lot(lot.names(), ties + [nearer])
                    self.assertTrue(plainly_refutes(against.ties(), refute(against)))
                    reached = (terms, value) if above else (less, (-value[0], value[1]))
                    self.assertTrue(plainly_derives(ties, reached, derive(Lot(lot.names(), ties), reached)))
                ties = ties + [(terms, value), (less, (-value[0], value[1]))]
                self.assertTrue(Lot(lot.names(), ties).possible)
        self.assertGreater(many, 40)

    def test_any_number_of_wishes(self):
        dice = random.Random(4)
        wishes = [(dice.choice([X, Y, SUM, SLOPE]), (dice.randint(-9, 9), 1)) for turn in range(60)]
        values = granted(SQUARE, wishes)
        self.assertEqual(len(values), 60)
        self.assertEqual([pair(Fraction(value)) for value in plain_lots.granted(bare(SQUARE.ties()), bare(wishes))], values)

    def test_any_value_as_a_wish(self):
        for lot in (SQUARE, NOTHING):
            for thing in NO_WISHES:
                with self.subTest(thing=thing):
                    self.assertEqual(refused(lambda: granted(lot, [(X, (1, 1)), thing, None])), 1)
                    self.assertEqual(refused(lambda: Layout(lot, (X, (1, 1)), thing, None)), 1)
        self.assertEqual(refused(lambda: granted(SQUARE, ((X, (1, 1)),) * 59 + (None,))), 59)

    def test_impossible(self):
        for wishes in ([], [(X, (1, 1))]):
            with self.assertRaises(Impossible) as caught:
                granted(NOTHING, wishes)
            self.assertEqual(caught.exception.tag, "Impossible")

    def test_keywords(self):
        self.assertEqual(granted(wishes=[(X, (5, 1))], lot=SQUARE), [(1, 1)])
        layout = Layout(lot=SQUARE)
        layout.ask(wish=(X, (5, 1)))
        layout.ask(wish=(Y, (5, 1)))
        layout.move(to=1, at=0)
        self.assertEqual(layout.wishes(), [(Y, (5, 1)), (X, (5, 1))])
        layout.move(at=1)
        self.assertEqual(layout.wishes(), [(X, (5, 1)), (Y, (5, 1))])
        layout.drop(at=0)
        self.assertEqual(layout.wishes(), [(Y, (5, 1))])
        with self.assertRaises(TypeError):
            layout.move(0, 0)


class LayoutTest(unittest.TestCase):
    def test_held(self):
        layout = Layout(SQUARE, (SUM, (5, 1)), (X, (0, 1)))
        self.assertEqual(layout.lot(), SQUARE)
        self.assertEqual(layout.wishes(), [(SUM, (5, 1)), (X, (0, 1))])
        self.assertEqual(len(layout), 2)
        self.assertEqual(repr(layout), "Layout(2 wishes)")
        self.assertEqual((len(Layout(SQUARE)), repr(Layout(SQUARE))), (0, "Layout(0 wishes)"))
        self.assertEqual(repr(Layout(SQUARE, (X, (1, 1)))), "Layout(1 wishes)")
        self.assertEqual(Layout.MOST, 8)
        self.assertEqual(layout.MOST, 8)
        layout.wishes().clear()
        self.assertEqual(len(layout), 2)
        self.assertEqual((layout.ask((X, (1, 1))), layout.drop(2), layout.move(0), layout.move(1, to=0)), (None,) * 4)

    def test_solution(self):
        layout = Layout(SQUARE, (SUM, (3, 2)))
        self.assertEqual(layout.solution(), {"x": (1, 2), "y": (1, 1)})
        layout.ask((Y, (0, 1)))
        self.assertEqual(layout.solution(), {"x": (1, 1), "y": (1, 2)})
        layout.solution().clear()
        self.assertEqual(list(layout.solution()), ["x", "y"])
        self.assertEqual(Layout(Lot(["x"])).solution(), {"x": (0, 1)})
        self.assertEqual(Layout(Lot([])).solution(), {})

    def test_any_calls(self):
        """Holds a layout against a plain list, behind right and wrong calls."""
        dice = random.Random(5)
        for turn in range(30):
            layout, wishes = Layout(SQUARE), []
            for call in range(40):
                self.one_call(dice, layout, wishes)
                self.assertEqual(layout.wishes(), wishes)
                self.assertEqual((len(layout), repr(layout)), (len(wishes), f"Layout({len(wishes)} wishes)"))
            self.assertEqual([wish for wish, value in layout.reached()], wishes)
            self.assertEqual([value for wish, value in layout.reached()], granted(SQUARE, wishes))
            self.assertEqual(layout.lot(), SQUARE)

    def one_call(self, dice, layout, wishes):
        way = dice.randint(0, 5)
        at, to = [dice.choice([0, 0, 1, 2, 3, 7, 8, -1, len(wishes), True, None, "0", (1, 1), []]) for turn in range(2)]
        there = [type(index) is int and 0 <= index < len(wishes) for index in (at, to)]
        if way < 3:
            wish = dice.choice([(X, (2 * dice.randint(-3, 3) + 1, 2)), (SUM, (1, 1)), (SLOPE, (1, 3)), None, (X, 1)])
            good = len(wishes) < 8 and wish not in (None, (X, 1))
            self.assertEqual(refused(lambda: layout.ask(wish)), None if good else len(wishes))
            wishes += [wish] if good else []
        elif way == 3:
            self.assertEqual(refused(lambda: layout.drop(at)), None if there[0] else at)
            if there[0]:
                wishes.pop(at)
        else:
            wrong = None if all(there) else to if there[0] else at
            self.assertEqual(refused(lambda: layout.move(at, to=to)), wrong)
            if wrong is None and all(there):
                wishes.insert(to, wishes.pop(at))

    def test_move(self):
        for at in range(4):
            for to in range(4):
                wishes = [(X, (number, 1)) for number in range(4)]
                layout = Layout(SQUARE, *wishes)
                layout.move(at, to=to)
                moved = layout.wishes()
                self.assertEqual(moved[to], wishes[at])
                self.assertEqual([wish for wish in moved if wish != wishes[at]], [w for w in wishes if w != wishes[at]])

    def test_wrong_indexes(self):
        layout = Layout(SQUARE, (X, (1, 1)), (Y, (1, 1)))
        for thing in [-1, 2, 10 ** 29, True, False, None, "0", "", (0,), [0], (1, 1)]:
            for do in (lambda: layout.drop(thing), lambda: layout.move(thing), lambda: layout.move(0, to=thing),
                       lambda: layout.move(thing, to=thing), lambda: layout.move(thing, to=9)):
                with self.assertRaises(InvalidWish) as caught:
                    do()
                self.assertEqual(caught.exception.at, thing)
                self.assertIs(type(caught.exception.at), type(thing))
        self.assertEqual(layout.wishes(), [(X, (1, 1)), (Y, (1, 1))])
        self.assertEqual(refused(lambda: Layout(SQUARE).drop(0)), 0)
        self.assertEqual(refused(lambda: Layout(SQUARE).move(0)), 0)

    def test_eight_wishes(self):
        wishes = [(X, (number, 1)) for number in range(10)]
        self.assertEqual(len(Layout(SQUARE, *wishes[:8])), 8)
        self.assertEqual(refused(lambda: Layout(SQUARE, *wishes[:9])), 8)
        self.assertEqual(refused(lambda: Layout(SQUARE, *wishes)), 8)
        self.assertEqual(refused(lambda: Layout(SQUARE, *wishes[:8], None)), 8)
        self.assertEqual(refused(lambda: Layout(SQUARE, *wishes[:9], None)), 9)
        self.assertEqual(refused(lambda: Layout(SQUARE, *wishes[:3], None, *wishes)), 3)
        self.assertEqual(refused(lambda: Layout(NOTHING, *wishes)), 8)
        layout = Layout(SQUARE, *wishes[:7])
        self.assertEqual(refused(lambda: layout.ask(None)), 7)
        layout.ask(wishes[7])
        for wish in (wishes[8], None, (X, 1), [], True):
            self.assertEqual(refused(lambda: layout.ask(wish)), 8)
        self.assertEqual(layout.wishes(), wishes[:8])
        layout.drop(3)
        layout.ask(wishes[8])
        self.assertEqual(layout.wishes(), wishes[:3] + wishes[4:9])

    def test_without_a_solution(self):
        for wishes in ([], [(X, (1, 1))]):
            layout = Layout(NOTHING, *wishes)
            self.assertEqual((len(layout), layout.lot()), (len(wishes), NOTHING))
            pairs = layout.reached()
            with self.assertRaises(Impossible):
                next(pairs)
            with self.assertRaises(Impossible):
                layout.solution()
            with self.assertRaises(Impossible):
                list(layout.reached())
            layout.ask((Y, (1, 1)))
            self.assertEqual(len(layout), len(wishes) + 1)


class ReachedTest(unittest.TestCase):
    def test_generator(self):
        self.assertTrue(inspect.isgenerator(Layout(SQUARE).reached()))
        self.assertEqual(list(Layout(SQUARE).reached()), [])
        layout = Layout(SQUARE, (SUM, (5, 1)), (X, (0, 1)))
        self.assertEqual(list(layout.reached()), [((SUM, (5, 1)), (2, 1)), ((X, (0, 1)), (1, 1))])

    def test_wishes_when_the_first_value_is_asked_for(self):
        layout = Layout(SQUARE, (X, (5, 1)))
        pairs = layout.reached()
        layout.ask((Y, (1, 3)))
        layout.move(1)
        self.assertEqual(next(pairs), ((Y, (1, 3)), (1, 3)))
        layout.drop(0)
        layout.drop(0)
        layout.ask((SUM, (0, 1)))
        self.assertEqual(next(pairs), ((X, (5, 1)), (1, 1)))
        self.assertEqual(list(pairs), [])
        self.assertEqual(list(layout.reached()), [((SUM, (0, 1)), (0, 1))])

    def test_two_by_turns(self):
        layout = Layout(SQUARE, (X, (5, 1)), (Y, (5, 1)))
        one = layout.reached()
        self.assertEqual(next(one)[0], (X, (5, 1)))
        layout.move(1)
        other = layout.reached()
        self.assertEqual(next(other)[0], (Y, (5, 1)))
        layout.drop(0)
        self.assertEqual((next(one)[0], next(other)[0]), ((Y, (5, 1)), (X, (5, 1))))
        self.assertEqual((list(one), list(other)), ([], []))

    def test_impossible_comes_with_the_first_value(self):
        layout = Layout(NOTHING)
        pairs = layout.reached()
        layout.ask((X, (1, 1)))
        with self.assertRaises(Impossible):
            next(pairs)


class LargeTest(unittest.TestCase):
    def test_eight_wishes_over_six_names(self):
        dice = random.Random(6)
        names = ["a", "b", "c", "d", "e", "f"]
        for turn in range(6):
            start = {name: Fraction(dice.randint(-5, 5), 3) for name in names}
            ties = [plain_lots.some_tie(dice, names, start) for at in range(20)]
            ties = [tie for tie in ties if sum(Fraction(*rate) * start[name] for name, rate in tie[0]) <= Fraction(*tie[1])]
            ties += read_ties("a + f <= 100") + read_ties("b - e <= 100")
            lot = Lot(names, ties)
            wishes = [plain_lots.some_tie(dice, names, {name: 0 for name in names}) for at in range(8)]
            values = list(Layout(lot, *wishes).reached())
            answer = Layout(lot, *wishes).solution()
            self.assertTrue(lot.holds(answer))
            for (terms, target), value in values:
                self.assertEqual(pair(sum(Fraction(*rate) * Fraction(*answer[name]) for name, rate in terms)), value)


if __name__ == "__main__":
    unittest.main()
