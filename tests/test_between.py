"""Between [28], and what [15] says of it."""

import itertools
import math
import random
import unittest

from mostclauses.between import Between
from mostclauses.errors import NoBound, NoFresh, NoMarks, NoPlan, TooMany
from mostclauses.said import Said
from mostclauses.shows import is_shown
from mostclauses.words import plan_for
from tellings import all_hold, lengthened

WORDS = ("pairs", "codes", "row", "tree", "nets", "groups")
GREATEST = 10 ** 9


def marks_for(many, start=1):
    """Some marks, by turns of either sign."""
    return [name if name % 2 else -name for name in range(start, start + many)]


def may_be(way, many, least, most):
    """Whether there is a Between by this word, of so few marks that it isn't too many."""
    return least <= min(most, many) and (way != "codes" or (most == 1 and many - least == 1))


class Telling(unittest.TestCase):

    def keeps_promise_of(self, between, on):
        """kept and broken at a whole setting."""
        marks, clauses, names = between.marks(), between.clauses(), between.names()
        told, rows = between.kept(on), between.broken(on)
        state = lengthened(marks, names, on)
        if between.least() <= len(on) <= between.most():
            self.assertIsNone(rows)
            self.assertEqual(told, [name if name in state else -name for name, _ in names])
            self.assertTrue(all_hold(clauses, state))
        else:
            self.assertIsNone(told)
            puts = [mark if mark in on else -mark for mark in marks]
            self.assertTrue(is_shown(clauses, puts, rows, None))

    def follows_as_told(self, between, puts):
        """Every mark that is the same in all settings that keep this and the puts comes at once."""
        marks, least, most = between.marks(), between.least(), between.most()
        left = [mark for mark in marks if mark not in puts and -mark not in puts]
        on = len([mark for mark in puts if mark in marks])
        told = between.follows(puts)
        # Of the others as many may be on as these.
        fewest, greatest = max(0, least - on), min(len(left), most - on)
        if fewest > greatest:
            self.assertIsNone(told)
            return
        wanted = []
        if left and greatest == 0:
            wanted = [-mark for mark in left]
        elif fewest == len(left):
            wanted = left
        self.assertEqual([mark for mark, _ in told], wanted)
        for mark, rows in told:
            self.assertTrue(is_shown(between.clauses(), puts, rows, mark))


class TestMade(Telling):

    def test_small(self):
        between = Between([1, 2, 3], 1, 1)
        self.assertEqual(between.marks(), [1, 2, 3])
        self.assertEqual((between.least(), between.most()), (1, 1))
        on = Said([1, 2, 3], 1, plan_for("tree", 3))
        off = Said([-1, -2, -3], 2, plan_for("tree", 3), fresh=on.names()[-1][0] + 1)
        self.assertEqual(between.clauses(), on.clauses() + off.clauses())
        self.assertEqual(between.names(), on.names() + off.names())
        self.assertEqual(Between([4, -5], 0, 1, way="pairs").clauses(), [(-4, 5)])
        self.assertEqual(Between([4, -5], 1, 1, way="pairs").clauses(), [(-4, 5), (4, -5)])
        self.assertEqual(Between([4, -5], 2, 2, way="pairs").clauses(), [(-5,), (4,)])
        self.assertEqual(Between([4, -5], 0, 2, way="pairs").clauses(), [])

    def test_against_two(self):
        for way, many in itertools.product(WORDS, (1, 2, 3, 5, 8, 12)):
            marks = marks_for(many, 7)
            for least, most in itertools.product(range(many + 1), range(many + 3)):
                if may_be(way, many, least, most):
                    for fresh in (None, 50):
                        self.is_as_told(Between(marks, least, most, way=way, fresh=fresh), way, fresh)

    def test_great_ones(self):
        for way, many, least, most in (
            ("tree", 60, 0, 60), ("nets", 60, 58, 59), ("pairs", 60, 59, 60), ("groups", 20, 19, 20), ("codes", 2, 1, 1),
            ("nets", 40, 20, 20), ("row", 30, 3, 5),
        ):
            self.is_as_told(Between(marks_for(many, 3), least, most, way=way), way, None)

    def is_as_told(self, between, way, fresh):
        marks, plan = between.marks(), plan_for(way, len(between.marks()))
        on = Said(marks, between.most(), plan, fresh=fresh)
        first = fresh or max(abs(mark) for mark in marks) + 1
        behind = first + len(on.names())
        off = Said([-mark for mark in marks], len(marks) - between.least(), plan, fresh=behind)
        self.assertEqual(between.clauses(), on.clauses() + off.clauses())
        self.assertEqual(between.names(), on.names() + off.names())
        self.assertEqual([name for name, _ in between.names()], list(range(first, first + len(between.names()))))

    def test_way_is_tree(self):
        self.assertEqual(Between(marks_for(5), 1, 3).clauses(), Between(marks_for(5), 1, 3, way="tree").clauses())
        self.assertNotEqual(Between(marks_for(5), 1, 3).clauses(), Between(marks_for(5), 1, 3, way="row").clauses())

    def test_copied_and_new(self):
        marks = [1, 2, 3, 4]
        between = Between(marks, 2, 3)
        marks.append(8)
        asks = (between.marks, between.clauses, between.names, lambda: between.kept([1, 2]), lambda: between.broken([1]),
                lambda: between.follows([1, 2, 3]))
        for ask in asks:
            told = ask()
            kept = list(told)
            self.assertNotEqual(kept, [])
            told.clear()
            self.assertEqual(ask(), kept)
        self.assertEqual(between.marks(), [1, 2, 3, 4])
        on, puts = [3, 1], [2, -1]
        between.kept(on), between.broken(on), between.follows(puts)
        self.assertEqual((on, puts), ([3, 1], [2, -1]))


class TestRefused(Telling):

    def is_refused(self, refusal, fields, *handed, **named):
        with self.assertRaises(refusal) as caught:
            Between(*handed, **named)
        self.assertIs(type(caught.exception), refusal)
        for field, worth in fields.items():
            self.assertEqual(getattr(caught.exception, field), worth)

    def test_marks(self):
        for marks in ([], [1, 1], [1, -1], [0], [GREATEST + 1], list(range(1, 62)), [True, 2]):
            self.is_refused(NoMarks, {}, marks, 5, 3, way="no way", fresh=0)
            self.is_refused(NoMarks, {}, marks, 0, 1)

    def test_bounds(self):
        for least, most, many in ((2, 1, 3), (1, 0, 3), (4, 4, 3), (4, 60, 3), (60, 60, 59), (60, 0, 3), (2, 1, 1)):
            fields = {"low": least, "high": most}
            self.is_refused(NoBound, fields, marks_for(many), least, most, way="no way", fresh=0)
            self.is_refused(NoBound, fields, marks_for(many), least, most)
        for least, most, many in ((0, 0, 3), (3, 3, 3), (3, 60, 3), (0, 60, 3), (1, 1, 1)):
            self.assertEqual(Between(marks_for(many), least, most).least(), least)

    def test_ways(self):
        for way in ("flat", "", "trees", "Tree", "tree ", "pairs(1 1)"):
            for many in (1, 3):
                self.is_refused(NoPlan, {}, marks_for(many), 0, 1, way=way, fresh=0)
        # Codes say at most 1 alone, of those on and of those off.
        for least, most in ((0, 0), (0, 2), (1, 3), (3, 3)):
            self.is_refused(NoPlan, {}, marks_for(3), least, most, way="codes", fresh=0)
        for least in (0, 1):
            self.is_refused(NoPlan, {}, marks_for(3), least, 1, way="codes")
        for least in (0, 1):
            self.is_refused(NoFresh, {"lowest": 4}, marks_for(3), least, 1, way="codes", fresh=3)
        self.is_refused(NoPlan, {}, [1, 2], 0, 1, way="codes")
        self.assertEqual(len(Between([1, 2], 1, 1, way="codes").names()), 2)
        self.assertEqual(Between([1], 0, 1, way="codes").clauses(), [])

    def test_fresh(self):
        for fresh in (3, 0, -4):
            self.is_refused(NoFresh, {"lowest": 4}, [1, -3], 0, 1, fresh=fresh)
        # Ahead of too many clauses.
        self.is_refused(NoFresh, {"lowest": 61}, marks_for(60), 0, 29, way="pairs", fresh=60)

    def test_too_many(self):
        self.is_refused(TooMany, {"many": math.comb(60, 30)}, marks_for(60), 0, 29, way="pairs")
        # The first is told, also where the second is as many or more.
        self.is_refused(TooMany, {"many": math.comb(60, 31)}, marks_for(60), 30, 30, way="pairs")
        self.is_refused(TooMany, {"many": math.comb(60, 30)}, marks_for(60), 31, 60, way="pairs")
        self.is_refused(TooMany, {"many": 5005}, marks_for(15), 10, 15, way="pairs")
        # Each by itself has 3003 at the most, both together may have more.
        self.assertEqual(len(Between(marks_for(15), 5, 9, way="pairs").clauses()), 3003 + math.comb(15, 11))
        self.assertEqual(len(Between(marks_for(14), 9, 9, way="pairs").clauses()), math.comb(14, 10) + math.comb(14, 6))


class TestSettings(Telling):

    def test_small(self):
        between = Between([1, 2, 3], 1, 2)
        self.assertIsNone(between.kept([]))
        self.assertIsNone(between.kept([1, 2, 3]))
        self.assertIsNone(between.broken([2]))
        self.assertEqual([mark for mark, _ in between.follows([1, 2])], [-3])
        self.assertEqual([mark for mark, _ in between.follows([-3, -1])], [2])
        self.assertEqual(between.follows([-3, 1]), [])
        self.assertIsNone(between.follows([-1, -2, -3]))
        self.assertEqual([mark for mark, _ in Between([1, -2], 2, 2).follows([])], [1, -2])
        self.assertEqual([mark for mark, _ in Between([1, -2], 0, 0).follows([])], [-1, 2])

    def test_all_settings(self):
        for many in range(1, 5):
            marks = marks_for(many, 2)
            for way, least, most in itertools.product(WORDS, range(many + 1), range(many + 2)):
                if may_be(way, many, least, most):
                    between = Between(marks, least, most, way=way)
                    for sides in itertools.product((1, -1, 0), repeat=many):
                        self.follows_as_told(between, [mark * side for mark, side in zip(marks, sides) if side])
                        if 0 not in sides:
                            self.keeps_promise_of(between, [mark for mark, side in zip(marks, sides) if side == 1])

    def test_against_settings_themselves(self):
        # What is the same in all settings, by a look at each.
        marks = [3, -1, 4, -2]
        for least, most in itertools.combinations_with_replacement(range(5), 2):
            between = Between(marks, least, most, way="nets")
            for sides in itertools.product((1, -1, 0), repeat=4):
                puts = [mark * side for mark, side in zip(marks, sides) if side]
                found = []
                for whole in itertools.product((1, -1), repeat=4):
                    state = {mark * side for mark, side in zip(marks, whole)}
                    if set(puts) <= state and least <= whole.count(1) <= most:
                        found.append(state)
                told = between.follows(puts)
                if not found:
                    self.assertIsNone(told)
                else:
                    same = set.intersection(*found)
                    self.assertEqual([mark for mark, _ in told],
                                     [side for mark in marks for side in (mark, -mark) if side in same and side not in puts])

    def test_great_ones(self):
        chance = random.Random(28)
        for _ in range(150):
            way = chance.choice(("pairs", "row", "tree", "nets", "groups"))
            many = chance.randrange(5, 31) if way != "pairs" else chance.randrange(5, 12)
            least = chance.randrange(many + 1)
            most = chance.choice((least, min(many, least + 1), chance.randrange(least, many + 1)))
            marks = chance.sample(marks_for(60), many)
            try:
                between = Between(marks, least, most, way=way)
            except TooMany:
                continue
            for size in {least - 1, least, most, most + 1, chance.randrange(many + 1)}:
                if 0 <= size <= many:
                    on = chance.sample(marks, size)
                    self.keeps_promise_of(between, on)
                    off = [mark for mark in marks if mark not in on]
                    self.follows_as_told(between, on)
                    self.follows_as_told(between, [-mark for mark in off])
                    puts = on + [-mark for mark in off]
                    self.follows_as_told(between, chance.sample(puts, chance.randrange(many + 1)))


if __name__ == "__main__":
    unittest.main()
