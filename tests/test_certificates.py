"""Promises 27 to 29 and 65: certificates are judged by plain sums, and found for all that follows."""

import random
import signal
import unittest
from fractions import Fraction

from tests import plain_lots
from tests.plain import pair
from tests.plain_lots import ANYTHING, bare, kinds, many_lots, some_tie
from tiespan.balances import balance
from tiespan.certificates import derive, derives, refute, refutes
from tiespan.errors import NotImplied, Possible, UnknownName
from tiespan.lots import Lot
from tiespan.ties import read_ties


def tie_of(text):
    return read_ties(text)[0]


def plain_sum(ties, paper):
    """Returns the rates and the bound of the sum of a certificate, or None if the list cannot be one."""
    rates, bound, before = {}, Fraction(0), -1
    if type(paper) not in (list, tuple):
        return None
    for thing in paper:
        if type(thing) is not tuple or len(thing) != 2 or type(thing[0]) is not int:
            return None
        at, share = thing
        if type(share) is not tuple or len(share) != 2 or type(share[0]) is not int or type(share[1]) is not int:
            return None
        if not before < at < len(ties) or share[1] < 1 or share[0] < 1 or pair(Fraction(*share)) != share:
            return None
        before = at
        for name, rate in ties[at][0]:
            rates[name] = rates.get(name, 0) + Fraction(*rate) * Fraction(*share)
        bound += Fraction(*ties[at][1]) * Fraction(*share)
    return {name: rate for name, rate in rates.items() if rate != 0}, bound


def plainly_refutes(ties, paper):
    found = plain_sum(ties, paper)
    return found is not None and found[0] == {} and found[1] < 0


def plainly_derives(ties, tie, paper):
    found = plain_sum(ties, paper)
    rates, bound = bare([tie])[0]
    return plainly_refutes(ties, paper) or found is not None and found[0] == rates and found[1] <= bound


RING = Lot.read(["x", "y"], "x - 1/2*y <= 1; -1/2*x + y <= 1; x >= 5; x <= 9")
TIES = [tie_of("x <= 1"), ((("x", (-1, 2)), ("y", (1, 1))), (1, 1)), tie_of("-x <= -2"), tie_of("-y <= 0"), tie_of("z <= 3")]
SHARES = [(1, 1), (2, 1), (1, 2), (3, 1)]


def papers(dice, many):
    """Returns a list, most of the time nearly a certificate for some number of ties."""
    found = [(at, dice.choice(SHARES)) for at in range(many) if dice.randint(0, 1)]
    way = dice.randint(0, 9)
    if way == 0:
        found = found[::-1]
    elif way == 1 and found:
        found.append(found[-1])
    elif way == 2:
        found.insert(dice.randint(0, len(found)), dice.choice(ANYTHING))
    elif way == 3 and found:
        at = dice.randrange(len(found))
        found[at] = list(found[at])
    elif way == 4 and found:
        at = dice.randrange(len(found))
        found[at] = (found[at][0], dice.choice(ANYTHING + [(0, 1), (-1, 1), (2, 2), (1, 0), (1, -1), [1, 1], (True, 1)]))
    elif way == 5 and found:
        at = dice.randrange(len(found))
        found[at] = (dice.choice(ANYTHING + [many, -1, -many, True, "0", (0,), 10 ** 30]), found[at][1])
    return found


class JudgeTest(unittest.TestCase):
    def test_refutes(self):
        self.assertIs(refutes(TIES, [(0, (1, 1)), (2, (1, 1))]), True)
        self.assertIs(refutes(TIES, ((0, (2, 3)), (2, (2, 3)))), True)
        self.assertIs(refutes(tuple(TIES), [(0, (1, 1)), (2, (1, 1))]), True)
        for paper in ([], [(0, (1, 1))], [(0, (1, 1)), (2, (2, 1))], [(2, (1, 1)), (0, (1, 1))], [(0, (1, 1)), (2, (1, 1)), (3, (1, 1))]):
            self.assertIs(refutes(TIES, paper), False)
        exact = [tie_of("x <= 1"), tie_of("-x <= -1")]
        self.assertIs(refutes(exact, [(0, (1, 1)), (1, (1, 1))]), False)
        self.assertIs(refutes([], []), False)

    def test_derives(self):
        tie = ((("x", (1, 2)), ("y", (1, 1))), (2, 1))
        self.assertIs(derives(TIES, tie, [(0, (1, 1)), (1, (1, 1))]), True)
        self.assertIs(derives(TIES, (tie[0], (3, 1)), [(0, (1, 1)), (1, (1, 1))]), True)
        self.assertIs(derives(TIES, (tie[0], (19, 10)), [(0, (1, 1)), (1, (1, 1))]), False)
        self.assertIs(derives(TIES, tie, [(0, (2, 1)), (1, (2, 1))]), False)
        self.assertIs(derives(TIES, tie, [(0, (1, 1))]), False)
        self.assertIs(derives(TIES, tie, []), False)
        self.assertIs(derives([], tie, []), False)
        self.assertIs(derives(TIES, ((("x", (2, 1)),), (2, 1)), ((0, (2, 1)),)), True)
        self.assertIs(derives(TIES, tie_of("z <= 3"), [(4, (1, 1))]), True)
        self.assertIs(derives(TIES, tie_of("-z <= 3"), [(4, (1, 1))]), False)

    def test_what_refutes_derives_each_tie(self):
        paper = [(0, (1, 1)), (2, (1, 1))]
        for text in ("x <= 1", "y <= -7", "w + z <= 0"):
            self.assertIs(derives(TIES, tie_of(text), paper), True)
        even = [(0, (1, 1)), (1, (1, 1))]
        self.assertIs(derives([tie_of("x <= 1"), tie_of("-x <= -1")], tie_of("x <= 5"), even), False)

    def test_terms_that_meet_and_vanish(self):
        ties = [tie_of("x + y <= 1"), tie_of("x - y <= 2")]
        self.assertIs(derives(ties, ((("x", (2, 1)),), (3, 1)), [(0, (1, 1)), (1, (1, 1))]), True)
        self.assertIs(derives(ties, tie_of("x <= 3/2"), [(0, (1, 2)), (1, (1, 2))]), True)
        self.assertIs(derives(ties, tie_of("x <= 7/5"), [(0, (1, 2)), (1, (1, 2))]), False)

    def test_any_values(self):
        good = [(0, (1, 1)), (2, (1, 1))]
        tie = tie_of("x <= 1")
        for thing in ANYTHING + [[0, (1, 1)], (0, [1, 1]), (0, 1), (5, (1, 1)), (-1, (1, 1)), (3, (0, 1)), (3, (-1, 1)),
                                 (3, (2, 2)), (3, (1, 0)), (3, (1, -1)), (True, (1, 1)), (3, (True, 1)), (3, (1, True)),
                                 (3, (1, 1), 0), ("3", (1, 1)), ((3, 1), (1, 1)), (2, (1, 1)), (1, (1, 1)), (3, None)]:
            for paper in ([thing], [thing] + good, good + [thing], (good[0], thing, good[1]), [thing, thing]):
                with self.subTest(paper=paper):
                    self.assertIs(refutes(TIES, paper), plainly_refutes(TIES, paper))
                    self.assertIs(derives(TIES, tie, paper), plainly_derives(TIES, tie, paper))
        self.assertIs(refutes(TIES, good), True)

    def test_against_plain_sums(self):
        dice = random.Random(1)
        found = []
        for turn in range(3000):
            ties = [dice.choice(TIES) for at in range(dice.randint(0, 5))]
            tie = dice.choice(TIES + [((("x", (1, 1)),), (3, 2)), ((("x", (2, 1)),), (9, 1)), tie_of("y <= 4")])
            paper = papers(dice, len(ties))
            self.assertIs(refutes(ties, paper), plainly_refutes(ties, paper), (ties, paper))
            self.assertIs(derives(ties, tie, paper), plainly_derives(ties, tie, paper), (ties, tie, paper))
            found.append((refutes(ties, paper), derives(ties, tie, paper)))
        self.assertEqual(set(found), {(True, True), (False, True), (False, False)})

    def test_keywords(self):
        paper = [(0, (1, 1)), (2, (1, 1))]
        self.assertIs(refutes(paper=paper, ties=TIES), True)
        self.assertIs(derives(paper=paper[:1], ties=TIES, tie=tie_of("x <= 1")), True)
        self.assertEqual(derive(tie=tie_of("x <= 9"), lot=Lot.read(["x"], "x <= 9")), [(0, (1, 1))])
        self.assertTrue(plainly_refutes(TIES[::2], refute(lot=Lot(["x", "z"], TIES[::2]))))


# Tables in which columns come and go for ever if, of several rows that are filled alike, the first one gives way, or
# the last one, or that of the last column.
ENDLESS = [
    ([[-2, -1, -2, 3, -3], [-3, -1, 1, -2, 3], [4, 3, 1, -2, -4], [-1, 1, 3, 2, 0], [-1, -4, -2, -2, -3], [2, 2, 2, 0, 4],
      [-4, -4, -3, 2, 2], [-1, -3, 1, -1, -4], [2, 2, 2, 1, 2]], [0, 0, 0, 0, 1]),
    ([[0, 0, 4, 0], [-3, -3, 4, 2], [1, -2, -4, -4], [1, -3, -1, -3], [0, 3, -2, -2], [-3, -2, -2, 4], [0, 1, 4, -4],
      [1, 4, -1, -1]], [0, 0, 1, 1]),
    ([[4, 0, -2], [4, 1, 2], [-3, -1, -2], [0, -2, 1], [-3, 4, -4], [-3, 2, 2], [-3, 3, 0], [2, -1, 4]], [0, 0, 1]),
    ([[4, 3, 1, -1, 1], [0, -2, 3, -2, -2], [1, -4, -3, 0, -4], [0, -4, -3, -2, -1], [2, -4, 1, 0, -1], [-2, 4, -4, -1, 4],
      [-2, -3, 4, 0, -4]], [0, 0, 0, 1, 1]),
    ([[2, -3, 1, -3], [2, -4, -3, 0], [-2, 3, 1, -3], [3, 2, 4, -4], [1, 3, 0, 2], [-1, 4, -4, 0], [-2, -1, -1, -3],
      [3, -3, 0, 4], [-3, -4, 0, -3]], [0, 0, 0, 1]),
    ([[4, -3, -1, -2], [-1, -4, 2, 1], [-4, 4, 4, 0], [-2, -3, 3, 3], [2, -1, 4, -3], [1, 2, 4, 0], [0, -3, 1, 2]],
     [0, 0, 0, 1]),
]


def too_long(number, frame):
    raise AssertionError("a call does not end")


class BalanceTest(unittest.TestCase):
    def test_no_table_comes_twice(self):
        before = signal.signal(signal.SIGALRM, too_long)
        signal.alarm(60)
        try:
            for columns, goal in ENDLESS:
                self.check(columns, goal, balance(columns, goal))
        finally:
            signal.alarm(0)
            signal.signal(signal.SIGALRM, before)

    def test_few(self):
        self.assertEqual(balance([], [0, 0]), [])
        self.assertIsNone(balance([], [0, 1]))
        self.assertIsNone(balance([[1], [2]], [-1]))
        self.assertIsNone(balance([[1, 1], [2, 2]], [1, 2]))
        self.assertEqual(balance([[2, 4], [-3, 0]], [0, 8]), [(0, (2, 1)), (1, (4, 3))])
        self.assertEqual(balance([[0, 0], [5, -5]], [-3, 3]), None)
        self.assertEqual(balance([[0, 0], [-5, 5]], [-3, 3]), [(1, (3, 5))])

    def test_any_columns(self):
        dice = random.Random(4)
        found = 0
        for turn in range(400):
            many, height = dice.randint(0, 8), dice.randint(1, 4)
            columns = [[dice.randint(-3, 3) for at in range(height)] for column in range(many)]
            shares = [dice.choice([0, 0, 1, 2]) for column in range(many)]
            goal = [sum(share * column[at] for share, column in zip(shares, columns)) for at in range(height)]
            goal[0] += dice.choice([0, 0, 0, 1])
            answer = balance(columns, goal)
            self.check(columns, goal, answer)
            found += answer is not None
        self.assertGreater(found, 200)
        self.assertLess(found, 390)

    def check(self, columns, goal, answer):
        if answer is None:
            self.assertTrue(self.is_impossible(columns, goal))
            return
        self.assertEqual(sorted(set(at for at, share in answer)), [at for at, share in answer])
        self.assertTrue(all(share[0] > 0 for at, share in answer))
        for at, wanted in enumerate(goal):
            self.assertEqual(sum(Fraction(*share) * columns[place][at] for place, share in answer), wanted)
        self.assertLessEqual(len(answer), len(goal))

    def is_impossible(self, columns, goal):
        """Returns whether some direction parts all columns from the goal: elimination of the direction says so."""
        names = [f"n{at}" for at in range(len(goal))]
        ties = [(dict((name, Fraction(rate)) for name, rate in zip(names, column) if rate), Fraction(0)) for column in columns]
        ties.append((dict((name, Fraction(-rate)) for name, rate in zip(names, goal) if rate), Fraction(-1)))
        return plain_lots.possible(ties)


class FindTest(unittest.TestCase):
    def check_derive(self, lot, tie):
        """Checks what derive says of a tie, by plain sums and elimination."""
        ties = lot.ties()
        try:
            paper = derive(lot, tie)
        except NotImplied as error:
            self.assertFalse(plain_lots.follows(bare(ties), bare([tie])[0]), (lot.text(), tie))
            self.check_answer(lot, error.answer)
            self.assertGreater(sum(Fraction(*rate) * Fraction(*error.answer[name]) for name, rate in tie[0]), Fraction(*tie[1]))
            return False
        self.assertIsInstance(paper, list)
        self.assertTrue(plainly_derives(ties, tie, paper), (lot.text(), tie, paper))
        if lot.possible:
            self.assertLessEqual(len(paper), len(lot.names()))
        else:
            self.assertTrue(plainly_refutes(ties, paper), (lot.text(), tie, paper))
            self.assertLessEqual(len(paper), len(lot.names()) + 1)
        return True

    def check_answer(self, lot, answer):
        self.assertEqual(sorted(answer), lot.names())
        values = {name: Fraction(*number) for name, number in answer.items()}
        for rates, bound in bare(lot.ties()):
            self.assertLessEqual(sum(rate * values[name] for name, rate in rates.items()), bound)

    def check_refute(self, lot):
        try:
            paper = refute(lot)
        except Possible as error:
            self.assertTrue(plain_lots.possible(bare(lot.ties())))
            self.check_answer(lot, error.answer)
            return False
        self.assertIsInstance(paper, list)
        self.assertTrue(plainly_refutes(lot.ties(), paper), (lot.text(), paper))
        self.assertLessEqual(len(paper), len(lot.names()) + 1)
        return True

    def test_ring(self):
        ring = Lot(["x", "y"], RING.ties()[:2])
        self.assertTrue(self.check_derive(ring, tie_of("x <= 2")))
        self.assertFalse(self.check_derive(ring, tie_of("x <= 1")))
        self.assertFalse(self.check_derive(ring, tie_of("-x <= 1")))
        self.assertTrue(self.check_refute(RING))
        self.assertTrue(self.check_derive(RING, tie_of("y <= -100")))

    def test_refute(self):
        lots = list(kinds().values())
        lots += many_lots(91, 40, 1, 5) + many_lots(92, 150, 2, 7) + many_lots(93, 120, 3, 8) + many_lots(94, 60, 4, 9)
        found = [self.check_refute(lot) for lot in lots]
        self.assertGreater(min(found.count(True), found.count(False)), 60)

    def test_derive(self):
        dice = random.Random(2)
        found = []
        lots = [lot for lot in kinds().values() if lot.names()]
        for lot in lots + many_lots(95, 30, 1, 4) + many_lots(96, 80, 2, 6) + many_lots(97, 80, 3, 7) + many_lots(98, 40, 4, 7):
            for turn in range(3):
                tie = some_tie(dice, lot.names(), {name: dice.randint(-2, 2) for name in lot.names()})
                found.append((lot.possible, self.check_derive(lot, tie)))
        self.assertGreater(min(found.count((True, True)), found.count((True, False)), found.count((False, True))), 50)
        self.assertNotIn((False, False), found)

    def test_the_edge_of_what_follows(self):
        for lot in many_lots(99, 60, 3, 7):
            for at, tie in enumerate(lot.closed().ties()):
                if lot.possible:
                    nearer = (tie[0], pair(Fraction(*tie[1]) - Fraction(1, 10 ** 12)))
                    self.assertTrue(self.check_derive(lot, tie))
                    self.assertFalse(self.check_derive(lot, nearer))

    def test_rates_are_not_reduced(self):
        lot = Lot.read(["x", "y"], "2*x + 4*y <= 6; y >= 1/3")
        for terms, bound in (((("x", (1, 3)), ("y", (2, 3))), (1, 1)), ((("x", (6, 1)), ("y", (12, 1))), (18, 1)),
                             ((("y", (-5, 7)),), (-5, 21))):
            self.assertTrue(self.check_derive(lot, (terms, bound)))
            self.assertFalse(self.check_derive(lot, (terms, pair(Fraction(*bound) - Fraction(1, 100)))))

    def test_points_have_no_more_pairs_than_names(self):
        lot = Lot.read(["x", "y"], "x <= 0; y <= 0; x + y <= 0; 2*x + y <= 0; x + 2*y <= 0; x + y >= 0; x - y <= 0; x >= 0; y >= 0")
        for text in ("x <= 0", "x + y <= 0", "3*x + 2*y <= 0", "-x - 5*y <= 0", "-x <= 0", "x - 9*y <= 1", "y <= 7"):
            self.assertTrue(self.check_derive(lot, tie_of(text)))

    def test_unknown_names(self):
        for lot in (Lot.read(["x", "y"], "x <= y"), Lot.read(["x", "y"], "x <= y - 1; y <= x")):
            for text, name in (("z <= 1", "z"), ("w + z <= 1", "w"), ("x + z <= 1", "z"), ("a + x <= 1", "a"), ("x' + y <= 1", "x'")):
                with self.assertRaises(UnknownName) as caught:
                    derive(lot, tie_of(text))
                self.assertEqual((caught.exception.name, caught.exception.tag), (name, "UnknownName"))
        with self.assertRaises(UnknownName):
            derive(Lot([]), tie_of("x <= 1"))

    def test_without_names(self):
        with self.assertRaises(Possible) as caught:
            refute(Lot([]))
        self.assertEqual((caught.exception.answer, caught.exception.tag), ({}, "Possible"))

    def test_without_bounds(self):
        with self.assertRaises(NotImplied) as caught:
            derive(Lot(["x", "y"]), tie_of("x - y <= 1000"))
        answer = caught.exception.answer
        self.assertGreater(Fraction(*answer["x"]) - Fraction(*answer["y"]), 1000)
        self.assertEqual(caught.exception.tag, "NotImplied")

    def test_answers_are_new(self):
        lot = Lot(["x"])
        for turn in range(2):
            with self.assertRaises(Possible) as caught:
                refute(lot)
            self.assertEqual(caught.exception.answer, {"x": (0, 1)})
            caught.exception.answer.clear()

    def test_lot_and_closed_lot_derive_each_other(self):
        dice = random.Random(3)
        names = ["a", "b", "c", "d", "e", "f"]
        large = [Lot(names, plain_lots.some_ties(dice, names, 20)) for turn in range(6)]
        for lot in list(kinds().values()) + many_lots(100, 40, 3, 7) + many_lots(101, 20, 4, 8) + large:
            closed = lot.closed()
            for one, other in ((lot, closed), (closed, lot)):
                for tie in other.ties():
                    paper = derive(one, tie)
                    self.assertTrue(plainly_derives(one.ties(), tie, paper))
                    self.assertLessEqual(len(paper), len(lot.names()) + (0 if lot.possible else 1))


if __name__ == "__main__":
    unittest.main()
