"""What is said [13 to 15], and that it says just it [3]."""

import itertools
import math
import random
import unittest

from mostclauses.errors import NoFresh, NoMarks, NoPlan, TooMany
from mostclauses.knots import codes_knot, net_knot, pairs_knot, sizes, sums_knot
from mostclauses.looks import is_knot
from mostclauses.plans import show_plan, size_of
from mostclauses.said import Said
from mostclauses.shows import is_shown
from mostclauses.words import plan_for
from tellings import all_hold, all_on, meaning_holds, plan_by_chance, small_plans

WORDS = ("pairs", "codes", "row", "tree", "nets", "groups")
GREATEST = 10 ** 9


def marks_for(many, start=1):
    """Some marks, by turns of either sign."""
    return [name if name % 2 else -name for name in range(start, start + many)]


def fits(plan, most):
    return (plan[0] == "pairs" or most == 1) and sizes(plan, most)[1] <= 3003


def knots_told(plan, marks, most, first):
    """The knots of a plan, said over again from [13] by the knots of the interface."""
    knots = []
    left = list(marks)
    cap = most + 1

    def fresh():
        return first + sum(len(knot[1]) for knot in knots)

    def row_of(part):
        if part == 1:
            return (left.pop(0),)
        rows = [row_of(one) for one in part[1:]]
        knots.append(net_knot(*rows, cap, fresh()) if part[0] == "net" else sums_knot(rows, cap, fresh()))
        return knots[-1][3]

    rows = [row_of(part) for part in plan[1:]]
    knots.append(codes_knot(rows, fresh()) if plan[0] == "codes" else pairs_knot(rows, most))
    return knots


class Telling(unittest.TestCase):

    def keeps_promise_at(self, said, on, off):
        """(a), (b), (c) where these of the marks are put on and these off."""
        marks, most, clauses = said.marks(), said.most(), said.clauses()
        told = said.follows(on + [-mark for mark in off])
        if len(on) > most:
            self.assertIsNone(told)
            return
        now = [-mark for mark in marks if len(on) == most and mark not in on and mark not in off]
        self.assertEqual([mark for mark, _ in told], now)
        for mark, rows in told:
            self.assertTrue(is_shown(clauses, on + [-one for one in off], rows, mark))

    def keeps_promise_of(self, said, on):
        """(a), (b), kept and broken at a whole setting."""
        marks, most, clauses = said.marks(), said.most(), said.clauses()
        told, rows = said.kept(on), said.broken(on)
        if len(on) > most:
            self.assertIsNone(told)
            self.assertTrue(is_shown(clauses, on, rows, None))
            return
        self.assertIsNone(rows)
        state = {mark if mark in on else -mark for mark in marks}
        for (name, meaning), mark in zip(said.names(), told, strict=True):
            self.assertEqual(mark, name if meaning_holds(meaning, state) else -name)
            state.add(mark)
        self.assertTrue(all_hold(clauses, state))


class TestMade(unittest.TestCase):

    def test_small(self):
        said = Said([1, 2, 3], 1, ("pairs", ("sums", 1, 1), 1))
        self.assertEqual(said.marks(), [1, 2, 3])
        self.assertEqual(said.most(), 1)
        self.assertEqual(said.plan(), ("pairs", ("sums", 1, 1), 1))
        self.assertEqual(said.knots(), [
            (((1,), (2,)), ((4, ((2,), (1,))), (5, ((1, 2),))), ((-2, 4), (-1, 4), (-1, -2, 5)), (4, 5)),
            (((4, 5), (3,)), (), ((-4, -3), (-5,)), ()),
        ])
        self.assertEqual(said.clauses(), [(-2, 4), (-1, 4), (-1, -2, 5), (-4, -3), (-5,)])
        self.assertEqual(said.names(), [(4, ((2,), (1,))), (5, ((1, 2),))])
        self.assertEqual(len(said), 5)
        self.assertEqual(str(said), "at most 1 of 1 2 3 by pairs(sums(1 1) 1)")

    def test_by_codes(self):
        said = Said([-3, 8, 5], 1, ("codes", 1, 1, 1), fresh=20)
        self.assertEqual(said.clauses(), [(3, -20), (3, -21), (-8, 20), (-8, -21), (-5, -20), (-5, 21)])
        self.assertEqual(said.names(), [(20, ((8,),)), (21, ((5,),))])
        self.assertEqual(str(said), "at most 1 of -3 8 5 by codes(1 1 1)")

    def test_knots_in_order(self):
        plan = ("pairs", ("sums", ("net", 1, 1), ("sums", 1, 1)), 1, ("sums", 1))
        said = Said([1, 2, 3, 4, 5, 6], 2, plan, fresh=100)
        rows = [knot[0] for knot in said.knots()]
        self.assertEqual(rows, [
            ((1,), (2,)), ((3,), (4,)), ((100, 101), (102, 103)), ((6,),), ((104, 105, 106), (5,), (107,))])
        self.assertEqual([name for name, _ in said.names()], list(range(100, 108)))

    def test_as_told(self):
        for many in range(1, 5):
            marks = marks_for(many, 4)
            for plan in small_plans(many):
                for most in range(many + 2):
                    if fits(plan, most):
                        self.is_as_told(Said(marks, most, plan), marks, most, plan, many + 4)
                        self.is_as_told(Said(marks, most, plan, fresh=77), marks, most, plan, 77)

    def test_great_ones_as_told(self):
        chance = random.Random(2)
        for _ in range(120):
            many = chance.randrange(1, 61)
            plan = plan_by_chance(chance, many, chance.choice(("pairs", "codes")))
            most = 1 if plan[0] == "codes" else chance.choice((0, 1, 2, 5, 20, 60))
            marks = chance.sample(marks_for(70), many)
            if fits(plan, most):
                fresh = chance.randrange(71, 2000)
                self.is_as_told(Said(marks, most, plan, fresh=fresh), marks, most, plan, fresh)

    def is_as_told(self, said, marks, most, plan, first):
        knots = knots_told(plan, marks, most, first)
        self.assertEqual(said.knots(), knots)
        self.assertEqual(said.clauses(), [clause for knot in knots for clause in knot[2]])
        names = [named for knot in knots for named in knot[1]]
        self.assertEqual(said.names(), names)
        self.assertEqual([name for name, _ in names], list(range(first, first + len(names))))
        self.assertEqual((len(names), len(said)), sizes(plan, most))
        self.assertTrue(all(is_knot(knot) for knot in knots))

    def test_by_words(self):
        for word in WORDS:
            for many in (1, 2, 3, 4, 5, 7, 9, 12, 16, 25, 33, 59, 60):
                for most in (0, 1, 2, 3, 5, 11, 30, 59, 60):
                    plan = plan_for(word, many)
                    if fits(plan, most):
                        said = Said(marks_for(many), most, plan)
                        self.assertEqual((len(said.names()), len(said)), sizes(plan, most))
                        self.assertEqual(said.names(), sorted(said.names()))

    def test_first_new_name(self):
        plan = ("pairs", ("sums", 1, 1))
        self.assertEqual([name for name, _ in Said([3, -9], 1, plan).names()], [10, 11])
        self.assertEqual([name for name, _ in Said([-3, 9], 1, plan, fresh=None).names()], [10, 11])
        self.assertEqual([name for name, _ in Said([3, -9], 1, plan, fresh=10).names()], [10, 11])
        self.assertEqual([name for name, _ in Said([3, -9], 1, plan, fresh=10 ** 10).names()], [10 ** 10, 10 ** 10 + 1])
        self.assertEqual([name for name, _ in Said([GREATEST, 1], 0, plan).names()], [GREATEST + 1])

    def test_copied_and_new(self):
        marks = [1, 2, 3]
        said = Said(marks, 1, ("pairs", ("sums", 1, 1), 1))
        before = [said.marks(), said.clauses(), said.knots(), said.names(), said.kept([1]), said.follows([1])]
        marks[0] = 9
        marks.append(7)
        self.assertEqual(said.marks(), [1, 2, 3])
        asks = (said.marks, said.clauses, said.knots, said.names, lambda: said.kept([1]), lambda: said.follows([1]))
        for ask, kept in zip(asks, before, strict=True):
            told = ask()
            self.assertEqual(told, kept)
            told.clear()
            self.assertEqual(ask(), kept)
        rows = said.broken([1, 2])
        kept = list(rows)
        rows.clear()
        self.assertEqual(said.broken([1, 2]), kept)
        for mark, rows in said.follows([1]):
            rows.append(mark)
        self.assertEqual(said.follows([1]), before[5])


class TestRefused(unittest.TestCase):

    NO_MARKS = [
        [], [0], [1, 1], [1, -1], [-2, 5, 2], [1, 2, 0], [GREATEST + 1], [1, -GREATEST - 1], [10 ** 12], [10 ** 12 + 1],
        list(range(1, 62)), list(range(1, 100)), marks_for(61), list(range(1, 61)) + [1],
    ]
    NO_PLANS = [
        None, True, 1, 0, "pairs", "pairs(1 1 1)", "", [], (), ("pairs",), ("pairs", 1), ("pairs", 1, 1),
        ("pairs", 1, 1, 1, 1), ["pairs", 1, 1, 1], ("sums", 1, 1, 1), ("net", 1, ("sums", 1, 1)), ("codes", 1, 1),
        ("codes", 1, 1, 1, 1), ("pairs", 1, True, 1), ("pairs", ("net", 1, 1, 1)), ("pairs", ("sums", 1, 1)),
        ("pairs", ("pairs", 1, 1, 1)), ("pairs", 1, ("codes", 1, 1)), 10 ** 60 - 1, [[["pairs"]]], (("pairs", 1, 1, 1),),
    ]

    def test_marks(self):
        for marks in self.NO_MARKS:
            many = max(1, min(60, len(marks)))
            for most, plan, fresh in ((1, plan_for("row", many), None), (60, None, 0), (2, plan_for("codes", many), 1)):
                with self.subTest(marks=marks, plan=plan):
                    self.assertRaises(NoMarks, Said, marks, most, plan, fresh=fresh)

    def test_marks_that_are_so(self):
        for marks in ([1], [-1], [GREATEST], [-GREATEST, 1], list(range(1, 61)), marks_for(60, GREATEST - 59)):
            self.assertEqual(Said(marks, 1, plan_for("tree", len(marks))).marks(), marks)

    def test_plans(self):
        for plan in self.NO_PLANS:
            for fresh in (None, 0, 4, 10 ** 10):
                with self.subTest(plan=plan):
                    self.assertRaises(NoPlan, Said, [1, 2, 3], 1, plan, fresh=fresh)

    def test_codes_of_another_most(self):
        for most in (0, 2, 3, 60):
            self.assertRaises(NoPlan, Said, [1, 2, 3], most, ("codes", 1, 1, 1), fresh=1)
        self.assertEqual(len(Said([1, 2, 3], 1, ("codes", 1, 1, 1))), 6)

    def test_fresh(self):
        for marks, lowest in (([1, 2, 3], 4), ([-7, 2, 3], 8), ([5, GREATEST, -3], GREATEST + 1)):
            for fresh in (lowest - 1, lowest - 2, 1, 0, -5):
                for plan in (("pairs", 1, 1, 1), ("codes", 1, 1, 1), ("pairs", ("sums", 1, 1, 1))):
                    with self.assertRaises(NoFresh) as caught:
                        Said(marks, 1, plan, fresh=fresh)
                    self.assertEqual(caught.exception.lowest, lowest)
            self.assertEqual(Said(marks, 1, ("pairs", 1, ("sums", 1, 1)), fresh=lowest).names()[0][0], lowest)

    def test_fresh_ahead_of_too_many(self):
        with self.assertRaises(NoFresh) as caught:
            Said(list(range(1, 61)), 29, plan_for("pairs", 60), fresh=60)
        self.assertEqual(caught.exception.lowest, 61)

    def test_too_many(self):
        for many, most, word in ((60, 29, "pairs"), (60, 2, "pairs"), (16, 5, "pairs"), (60, 60, "groups"), (60, 5, "groups")):
            plan = plan_for(word, many)
            if sizes(plan, most)[1] > 3003:
                with self.assertRaises(TooMany) as caught:
                    Said(list(range(1, many + 1)), most, plan)
                self.assertEqual(caught.exception.many, sizes(plan, most)[1])
        with self.assertRaises(TooMany) as caught:
            Said(list(range(1, 61)), 29, plan_for("pairs", 60))
        self.assertEqual(caught.exception.many, math.comb(60, 30))
        self.assertRaises(TooMany, Said, list(range(1, 61)), 29, ("pairs", ("sums",) + (1,) * 60))

    def test_3003_at_the_most(self):
        plan = ("pairs",) + (1,) * 15
        self.assertEqual(len(Said(list(range(1, 16)), 4, plan)), 3003)
        self.assertEqual(len(Said(list(range(1, 15)), 5, plan[:15])), 3003)
        for most in (5, 6, 7, 8):
            with self.assertRaises(TooMany) as caught:
                Said(list(range(1, 16)), most, plan)
            self.assertEqual(caught.exception.many, math.comb(15, most + 1))
        # All knots together have one more than 3003, though none of them has.
        with self.assertRaises(TooMany) as caught:
            Said(list(range(1, 16)), 4, ("pairs",) + (1,) * 14 + (("sums", 1),))
        self.assertEqual(caught.exception.many, 3004)


class TestEqual(unittest.TestCase):

    def test_equal(self):
        plan = ("pairs", 1, ("sums", 1, 1))
        one = Said([1, -2, 3], 1, plan)
        for other in (Said([1, -2, 3], 1, plan), Said([1, -2, 3], 1, ("pairs", 1, ("sums", 1, 1)), fresh=4), one):
            self.assertTrue(one == other)
            self.assertFalse(one != other)

    def test_unlike(self):
        plan = ("pairs", 1, ("sums", 1, 1))
        one = Said([1, -2, 3], 1, plan)
        for other in (
            Said([1, 2, 3], 1, plan), Said([-2, 1, 3], 1, plan), Said([1, -2, 4], 1, plan, fresh=5),
            Said([1, -2, 3], 0, plan), Said([1, -2, 3], 2, plan), Said([1, -2, 3], 1, ("pairs", 1, ("net", 1, 1))),
            Said([1, -2, 3], 1, ("pairs", ("sums", 1, 1), 1)), Said([1, -2, 3], 1, plan, fresh=5),
            Said([1, -2, 3], 1, ("codes", 1, ("sums", 1, 1))), Said([1, -2], 1, ("pairs", 1, 1), fresh=4),
        ):
            self.assertFalse(one == other)
            self.assertTrue(one != other)
            self.assertFalse(other == one)

    def test_without_names_and_clauses(self):
        one = Said([1, 2], 2, ("pairs", 1, 1))
        self.assertEqual(one.clauses(), [])
        self.assertFalse(one == Said([1, 2], 3, ("pairs", 1, 1)))
        self.assertFalse(one == Said([1, 2], 2, ("pairs", 1, 1), fresh=4))
        self.assertTrue(one == Said([1, 2], 2, ("pairs", 1, 1), fresh=3))

    def test_beside_other_things(self):
        one = Said([1, 2], 1, ("pairs", 1, 1))
        for other in (None, 1, "at most 1 of 1 2 by pairs(1 1)", [1, 2], one.clauses(), (), object()):
            self.assertFalse(one == other)
            self.assertFalse(other == one)
            self.assertTrue(one != other)


class TestLenAndText(unittest.TestCase):

    def test_len(self):
        for word in WORDS:
            for many in range(1, 13):
                for most in range(many + 2):
                    if word != "codes" or most == 1:
                        said = Said(marks_for(many), most, plan_for(word, many))
                        self.assertEqual(len(said), len(said.clauses()))
                        self.assertEqual(len(said), sizes(said.plan(), most)[1])

    def test_text(self):
        self.assertEqual(str(Said([7], 0, ("pairs", 1))), "at most 0 of 7 by pairs(1)")
        self.assertEqual(str(Said([7, -12], 60, ("pairs", ("net", 1, 1)))), "at most 60 of 7 -12 by pairs(net(1 1))")
        for word in WORDS:
            marks = marks_for(17)
            said = Said(marks, 1, plan_for(word, 17), fresh=90)
            self.assertEqual(str(said), f"at most 1 of {' '.join(map(str, marks))} by {show_plan(plan_for(word, 17))}")


class TestSettings(Telling):

    def test_small(self):
        said = Said([1, 2, 3], 1, ("pairs", ("sums", 1, 1), 1))
        self.assertEqual(said.kept([]), [-4, -5])
        self.assertEqual(said.kept([1]), [4, -5])
        self.assertEqual(said.kept([3]), [-4, -5])
        self.assertIsNone(said.kept([1, 2]))
        self.assertIsNone(said.kept([3, 1]))
        self.assertIsNone(said.broken([]))
        self.assertIsNone(said.broken([2]))
        self.assertEqual(said.broken([1, 2]), [2, 4])
        self.assertEqual([mark for mark, _ in said.follows([2])], [-1, -3])
        self.assertEqual([mark for mark, _ in said.follows([3])], [-1, -2])
        self.assertEqual([mark for mark, _ in said.follows([2, -1])], [-3])
        self.assertEqual(said.follows([2, -1, -3]), [])
        self.assertEqual(said.follows([-1, -3]), [])
        self.assertEqual(said.follows([]), [])
        self.assertIsNone(said.follows([2, 1]))
        self.assertIsNone(said.follows([2, -1, 3]))

    def test_marks_below_nought(self):
        said = Said([-1, 2, -3], 1, ("pairs", ("sums", 1, 1), 1))
        self.assertEqual(said.kept([-1]), [4, -5])
        self.assertEqual(said.kept([-3]), [-4, -5])
        self.assertIsNone(said.kept([-1, -3]))
        self.assertEqual([mark for mark, _ in said.follows([-1])], [-2, 3])
        self.assertEqual([mark for mark, _ in said.follows([-3, 1])], [-2])
        self.assertEqual(said.follows([1, 3]), [])
        self.assertIsNone(said.follows([-1, -3]))

    def test_marks_in_order(self):
        said = Said([9, -2, 5, 1], 1, ("pairs", ("sums", 1, 1), 1, 1))
        self.assertEqual([mark for mark, _ in said.follows([5])], [-9, 2, -1])
        self.assertEqual([mark for mark, _ in said.follows([-9, 1])], [2, -5])

    def test_most_nought(self):
        for word in ("pairs", "row", "tree", "nets", "groups"):
            said = Said([1, -2, 3], 0, plan_for(word, 3))
            self.assertEqual([mark for mark, _ in said.follows([])], [-1, 2, -3])
            self.assertEqual([mark for mark, _ in said.follows([2])], [-1, -3])
            self.assertIsNone(said.follows([-2]))
            self.assertEqual(said.kept([]), [-name for name, _ in said.names()])
            self.assertIsNone(said.kept([3]))

    def test_no_bound_in_fact(self):
        for plan in (("pairs", 1, 1), ("pairs", ("net", 1, 1)), ("pairs", ("sums", 1, 1))):
            for most in (2, 3, 60):
                said = Said([1, 2], most, plan)
                self.assertEqual(said.follows([1, 2]), [])
                self.assertIsNone(said.broken([1, 2]))
                self.assertEqual(said.kept([1, 2]), [name for name, _ in said.names()])

    def test_not_changed(self):
        said = Said([1, 2, 3], 1, ("pairs", ("sums", 1, 1), 1))
        on, puts = [3, 1], [2, -1]
        said.kept(on), said.broken(on), said.follows(puts)
        self.assertEqual((on, puts), ([3, 1], [2, -1]))

    def test_rows_from_these_puts_alone(self):
        # Rows that show from some of the puts needn't do so from all: each row must bring a mark at its turn.
        for word in WORDS:
            for many, most in ((6, 1), (7, 2), (9, 3)):
                if word != "codes" or most == 1:
                    said = Said(marks_for(many), most, plan_for(word, many))
                    for on in (said.marks(), said.marks()[::-1], said.marks()[1:], said.marks()[:most + 1]):
                        self.assertTrue(is_shown(said.clauses(), on, said.broken(on), None))


class TestPromise(Telling):

    def test_small_plans(self):
        for many, step in ((1, 1), (2, 1), (3, 1), (4, 7)):
            marks = marks_for(many, 3)
            for plan in small_plans(many)[::step]:
                for most in range(many + 2):
                    if plan[0] == "codes" and most != 1:
                        continue
                    said = Said(marks, most, plan)
                    with self.subTest(said=str(said)):
                        self.keeps_promise(said)

    def keeps_promise(self, said):
        for states in itertools.product((-1, 0, 1), repeat=len(said.marks())):
            on = [mark for mark, state in zip(said.marks(), states) if state == 1]
            off = [mark for mark, state in zip(said.marks(), states) if state == -1]
            self.keeps_promise_at(said, on, off)
            if 0 not in states:
                self.keeps_promise_of(said, on)

    def test_by_words(self):
        for word in WORDS:
            for many in (5, 6):
                for most in range(many + 1):
                    if word != "codes" or most == 1:
                        self.keeps_promise(Said(marks_for(many), most, plan_for(word, many)))

    def test_great_ones(self):
        chance = random.Random(60)
        for word in WORDS:
            for many in (7, 13, 24, 37, 60):
                for most in (0, 1, 2, 5, 12, 30, 59, 60):
                    if (word != "codes" or most == 1) and fits(plan_for(word, many), most):
                        self.keeps_promise_here_and_there(chance, Said(marks_for(many), most, plan_for(word, many)))

    def test_great_ones_by_chance(self):
        chance = random.Random(61)
        for _ in range(100):
            many = chance.randrange(5, 61)
            plan = plan_by_chance(chance, many, chance.choice(("pairs", "pairs", "codes")))
            most = 1 if plan[0] == "codes" else chance.choice((0, 1, 2, 3, 4, 7, 15, 40))
            if fits(plan, most):
                self.assertEqual(size_of(plan), many)
                self.keeps_promise_here_and_there(chance, Said(chance.sample(marks_for(80), many), most, plan))

    def keeps_promise_here_and_there(self, chance, said):
        marks, most = said.marks(), said.most()
        for many in {0, 1, most - 1, most, most + 1, most + 2, len(marks)}:
            if 0 <= many <= len(marks):
                on = chance.sample(marks, many)
                others = [mark for mark in marks if mark not in on]
                self.keeps_promise_of(said, on)
                self.keeps_promise_at(said, on, chance.sample(others, chance.randrange(len(others) + 1)))
                self.keeps_promise_at(said, on, [])

    def test_nothing_else_follows(self):
        # What comes on at once of the marks is all that does so by the clauses.
        for word in WORDS:
            said = Said(marks_for(6), 1, plan_for(word, 6))
            for mark in said.marks():
                now = all_on(said.clauses(), [mark])
                self.assertEqual({one for one, _ in said.follows([mark])} | {mark},
                                 {one for one in now if abs(one) <= 6})


if __name__ == "__main__":
    unittest.main()
