"""Sums of bits, and gaps [22, 23, 24]."""

import itertools
import math
import random
import unittest

from mostclauses.added import Added, gap
from mostclauses.errors import NoFresh, NoMarks, TooMany
from mostclauses.marks import is_clause
from mostclauses.said import Said
from mostclauses.shows import is_shown
from mostclauses.words import plan_for
from tellings import all_hold, all_on, lengthened, meaning_holds

GREATEST = 10 ** 9


def marks_for(many, start=1):
    """Some marks, by turns of either sign."""
    return [name if name % 2 else -name for name in range(start, start + many)]


# The tuples of [22] as they are written there, by places: 1 is a on, -1 is a off, 2 is b on ..
SUM_OF_3 = (((1, -2, -3), (-1, 2, -3), (-1, -2, 3), (1, 2, 3)), ((-1, -2, -3), (1, 2, -3), (1, -2, 3), (-1, 2, 3)))
CARRY_OF_3 = (((1, 2), (1, 3), (2, 3)), ((-1, -2), (-1, -3), (-2, -3)))
SUM_OF_2 = (((1, -2), (-1, 2)), ((-1, -2), (1, 2)))
CARRY_OF_2 = (((1, 2),), ((-1,), (-2,)))


def named_by(tuples, marks, name):
    """A name's meaning and its clauses, by tuples of places."""
    by_on, by_off = [
        [tuple(marks[abs(place) - 1] * (1 if place > 0 else -1) for place in one) for one in side] for side in tuples
    ]
    clauses = [tuple(-mark for mark in one) + (name,) for one in by_on]
    clauses += [tuple(-mark for mark in one) + (-name,) for one in by_off]
    return (name, tuple(by_on)), clauses


def told_again(marks, most, first):
    """The names and clauses, told over again: all columns are there from the beginning, and are gone through."""
    columns = [list(marks)]
    names, clauses = [], []
    at = 0
    while at < len(columns):
        while len(columns[at]) > 1:
            taken, columns[at] = columns[at][:3], columns[at][3:]
            if at + 1 == len(columns):
                columns.append([])
            both = ((SUM_OF_3, CARRY_OF_3) if len(taken) == 3 else (SUM_OF_2, CARRY_OF_2))
            for tuples, column in zip(both, (columns[at], columns[at + 1])):
                name = first + len(names)
                named, said = named_by(tuples, taken, name)
                names.append(named)
                clauses += said
                column.append(name)
        at += 1
    digits = bin(most)[2:] if most else ""
    if len(digits) <= len(columns):
        bits = [column[0] for column in columns]
        ones = [place for place in range(len(digits)) if digits[-1 - place] == "1"]
        for place in range(len(bits)):
            if place not in ones:
                clauses.append((-bits[place],) + tuple(-bits[one] for one in ones if one > place))
    return names, clauses


def settings_of(marks):
    for sides in itertools.product((True, False), repeat=len(marks)):
        yield [mark for mark, side in zip(marks, sides) if side]


class TestMade(unittest.TestCase):

    def test_of_three(self):
        added = Added([1, 2, 3], 1)
        self.assertEqual(added.marks(), [1, 2, 3])
        self.assertEqual(added.most(), 1)
        self.assertEqual(added.names(), [
            (4, ((1, -2, -3), (-1, 2, -3), (-1, -2, 3), (1, 2, 3))), (5, ((1, 2), (1, 3), (2, 3)))])
        self.assertEqual(added.clauses(), [
            (-1, 2, 3, 4), (1, -2, 3, 4), (1, 2, -3, 4), (-1, -2, -3, 4),
            (1, 2, 3, -4), (-1, -2, 3, -4), (-1, 2, -3, -4), (1, -2, -3, -4),
            (-1, -2, 5), (-1, -3, 5), (-2, -3, 5), (1, 2, -5), (1, 3, -5), (2, 3, -5),
            (-5,),
        ])
        self.assertEqual(len(added), 15)
        self.assertEqual(str(added), "at most 1 of 1 2 3 by bits")

    def test_of_two(self):
        added = Added([5, -2], 0, fresh=9)
        self.assertEqual(added.names(), [(9, ((5, 2), (-5, -2))), (10, ((5, -2),))])
        self.assertEqual(added.clauses(), [
            (-5, -2, 9), (5, 2, 9), (5, -2, -9), (-5, 2, -9), (-5, 2, 10), (5, -10), (-2, -10), (-9,), (-10,)])

    def test_of_one(self):
        self.assertEqual(Added([-7], 0).clauses(), [(7,)])
        self.assertEqual(Added([7], 0).clauses(), [(-7,)])
        for most in (1, 2, 60):
            self.assertEqual(Added([7], most).clauses(), [])
        self.assertEqual(Added([7], 0).names(), [])

    def test_of_four(self):
        # What a column has stands ahead of the sum: 4 and the sum of the first three are taken next.
        names = Added([1, 2, 3, 4], 2).names()
        self.assertEqual([name for name, _ in names], [5, 6, 7, 8, 9, 10])
        self.assertEqual(names[2], (7, ((4, -5), (-4, 5))))
        self.assertEqual(names[3], (8, ((4, 5),)))
        self.assertEqual(names[4], (9, ((6, -8), (-6, 8))))
        self.assertEqual(names[5], (10, ((6, 8),)))

    def test_last_clauses(self):
        def last(many, most):
            added = Added(list(range(1, many + 1)), most, fresh=100)
            return added.clauses()[len(Added(list(range(1, many + 1)), 60, fresh=100).clauses()):]

        # The bits of four are 102, 104 and 105.
        self.assertEqual(last(4, 0), [(-102,), (-104,), (-105,)])
        self.assertEqual(last(4, 1), [(-104,), (-105,)])
        self.assertEqual(last(4, 2), [(-102, -104), (-105,)])
        self.assertEqual(last(4, 3), [(-105,)])
        self.assertEqual(last(4, 4), [(-102, -105), (-104, -105)])
        self.assertEqual(last(4, 5), [(-104, -105)])
        self.assertEqual(last(4, 6), [(-102, -104, -105)])
        self.assertEqual(last(4, 7), [])
        self.assertEqual(last(4, 8), [])
        self.assertEqual(last(3, 4), [])
        self.assertEqual(last(3, 3), [])
        self.assertEqual(last(3, 2), [(-100, -101)])

    def test_as_told(self):
        for many in range(1, 61):
            marks = marks_for(many, 3)
            for most in {0, 1, 2, 3, 4, 5, 7, 8, 12, 16, 31, 32, 33, many - 1, many, many + 1, 59, 60}:
                added = Added(marks, most)
                names, clauses = told_again(marks, most, many + 3)
                self.assertEqual(added.names(), names)
                self.assertEqual(added.clauses(), clauses)
                self.assertEqual([name for name, _ in names], list(range(many + 3, many + 3 + len(names))))
                self.assertEqual(len(added), len(clauses))
                self.assertTrue(all(is_clause(clause) for clause in clauses))
                self.assertLess(len(added), 3004)

    def test_first_new_name(self):
        self.assertEqual(Added([3, -9], 1).names()[0][0], 10)
        self.assertEqual(Added([3, -9], 1, fresh=None).names()[0][0], 10)
        self.assertEqual(Added([3, -9], 1, fresh=10).names()[0][0], 10)
        self.assertEqual([name for name, _ in Added([3, -9], 1, fresh=10 ** 10).names()], [10 ** 10, 10 ** 10 + 1])
        self.assertEqual(told_again([4, 2, 1], 2, 50), (Added([4, 2, 1], 2, fresh=50).names(), Added([4, 2, 1], 2, fresh=50).clauses()))

    def test_copied_and_new(self):
        marks = [1, 2, 3, 4, 5]
        added = Added(marks, 3)
        asks = (added.marks, added.clauses, added.names, lambda: added.kept([1]), lambda: added.follows([1, 2, 3]))
        before = [ask() for ask in asks]
        marks[0] = 9
        marks.append(7)
        for ask, kept in zip(asks, before, strict=True):
            told = ask()
            self.assertEqual(told, kept)
            told.clear()
            self.assertEqual(ask(), kept)
        on, puts = [3, 1], [2, -1]
        added.kept(on), added.broken(on), added.follows(puts)
        self.assertEqual((on, puts), ([3, 1], [2, -1]))


class TestRefused(unittest.TestCase):

    def test_marks(self):
        for marks in ([], [1, 1], [1, -1], [3, 2, -3], [0], [1, True], [GREATEST + 1], [-GREATEST - 1], list(range(1, 62))):
            for fresh in (None, 0, 5):
                self.assertRaises(NoMarks, Added, marks, 1, fresh=fresh)
        for marks in ([1], [-GREATEST, 1], list(range(1, 61))):
            self.assertEqual(Added(marks, 1).marks(), marks)

    def test_fresh(self):
        for marks, lowest in (([1, 2, 3], 4), ([-7, 2, 3], 8), ([5, GREATEST, -3], GREATEST + 1)):
            for fresh in (lowest - 1, 1, 0, -5):
                with self.assertRaises(NoFresh) as caught:
                    Added(marks, 1, fresh=fresh)
                self.assertEqual(caught.exception.lowest, lowest)
            self.assertEqual(Added(marks, 1, fresh=lowest), Added(marks, 1))


class TestEqualLenText(unittest.TestCase):

    def test_equal(self):
        one = Added([1, -2, 3], 1)
        for other in (Added([1, -2, 3], 1), Added([1, -2, 3], 1, fresh=4), one):
            self.assertTrue(one == other)
            self.assertFalse(one != other)

    def test_unlike(self):
        one = Added([1, -2, 3], 1)
        for other in (
            Added([1, 2, 3], 1), Added([-2, 1, 3], 1), Added([1, -2, 4], 1, fresh=5), Added([1, -2, 3], 2),
            Added([1, -2, 3], 1, fresh=5), Added([1, -2], 1, fresh=4), Said([1, -2, 3], 1, ("pairs", 1, 1, 1)),
            None, 1, "at most 1 of 1 -2 3 by bits", [1, -2, 3], one.clauses(), object(),
        ):
            self.assertFalse(one == other)
            self.assertFalse(other == one)
            self.assertTrue(one != other)

    def test_unlike_without_clauses(self):
        self.assertFalse(Added([7], 1) == Added([7], 2))
        self.assertFalse(Added([7], 1) == Added([7], 1, fresh=9))
        self.assertTrue(Added([7], 1) == Added([7], 1, fresh=8))

    def test_len_and_text(self):
        for many in (1, 2, 5, 17, 60):
            for most in (0, 3, 60):
                added = Added(marks_for(many), most)
                self.assertEqual(len(added), len(added.clauses()))
                self.assertEqual(str(added), f"at most {most} of {' '.join(map(str, marks_for(many)))} by bits")
        self.assertEqual(str(Added([-12], 60)), "at most 60 of -12 by bits")


class TestSettings(unittest.TestCase):

    def keeps_promise_at(self, added, on):
        """It says the bound at a whole setting."""
        marks, most, clauses, names = added.marks(), added.most(), added.clauses(), added.names()
        state = lengthened(marks, names, on)
        told, rows = added.kept(on), added.broken(on)
        self.assertEqual(all_hold(clauses, state), len(on) <= most)
        if len(on) <= most:
            self.assertIsNone(rows)
            self.assertEqual(told, [name if name in state else -name for name, _ in names])
        else:
            self.assertIsNone(told)
            puts = [mark if mark in on else -mark for mark in marks]
            self.assertTrue(is_shown(clauses, puts, rows, None))

    def test_all_settings(self):
        for many in range(1, 8):
            marks = marks_for(many, 2)
            for most in range(many + 2):
                added = Added(marks, most)
                for on in settings_of(marks):
                    self.keeps_promise_at(added, on)

    def test_great_ones(self):
        chance = random.Random(22)
        for many in (9, 15, 16, 31, 33, 60):
            marks = marks_for(many)
            for most in (0, 1, 2, 3, 7, 8, many // 2, many - 1, many, 60):
                added = Added(marks, most)
                for size in {0, most - 1, most, most + 1, most + 2, many}:
                    if 0 <= size <= many:
                        self.keeps_promise_at(added, chance.sample(marks, size))

    def test_follows(self):
        for many in (1, 2, 3, 4, 5):
            marks = marks_for(many, 2)
            for most in range(many + 1):
                added = Added(marks, most)
                for sides in itertools.product((1, -1, 0), repeat=many):
                    self.follows_as_told(added, [mark * side for mark, side in zip(marks, sides) if side])

    def test_follows_of_great_ones(self):
        chance = random.Random(23)
        for _ in range(60):
            marks = chance.sample(marks_for(40), chance.randrange(6, 25))
            added = Added(marks, chance.randrange(len(marks)), fresh=50)
            puts = [mark * chance.choice((1, -1)) for mark in chance.sample(marks, chance.randrange(len(marks) + 1))]
            self.follows_as_told(added, puts)

    def follows_as_told(self, added, puts):
        now = all_on(added.clauses(), puts)
        told = added.follows(puts)
        if now is None:
            self.assertIsNone(told)
            return
        wanted = [mark if mark in now else -mark for mark in added.marks()
                  if mark not in puts and -mark not in puts and (mark in now or -mark in now)]
        self.assertEqual([mark for mark, _ in told], wanted)
        for mark, rows in told:
            self.assertTrue(is_shown(added.clauses(), puts, rows, mark))

    def test_less_than_at_once(self):
        # By one of four on the others are off, but that isn't seen at once.
        self.assertEqual(Added([1, 2, 3, 4], 1).follows([1]), [])
        self.assertEqual([mark for mark, _ in Said([1, 2, 3, 4], 1, plan_for("tree", 4)).follows([1])], [-2, -3, -4])

    def test_meanings(self):
        added = Added([1, 2, 3], 3)
        (_, odd), (_, two) = added.names()
        for on in settings_of([1, 2, 3]):
            state = {mark if mark in on else -mark for mark in (1, 2, 3)}
            self.assertEqual(meaning_holds(odd, state), len(on) % 2 == 1)
            self.assertEqual(meaning_holds(two, state), len(on) >= 2)


def gap_told(said):
    """The gap, by a look at each choice in turn."""
    marks, most = said.marks(), said.most()
    if most >= len(marks):
        return None
    for places in itertools.combinations(range(len(marks)), most):
        on = [marks[place] for place in places]
        now = all_on(said.clauses(), on)
        for mark in marks:
            if mark not in on and -mark not in now:
                return (on, mark)
    return None


class TestGap(unittest.TestCase):

    def test_small(self):
        self.assertEqual(gap(Added([1, 2, 3, 4], 1)), ([1], 2))
        self.assertEqual(gap(Added([4, -2, 3, 1], 1)), ([4], -2))
        self.assertEqual(gap(Added([1, 2, 3, 4], 0)), ([], 1))
        self.assertIsNone(gap(Added([1], 0)))
        self.assertIsNone(gap(Added([1, 2], 2)))
        self.assertIsNone(gap(Added([1, 2], 60)))

    def test_against_all_choices(self):
        found = []
        for many in range(1, 8):
            for most in range(many + 2):
                added = Added(marks_for(many, 4), most)
                self.assertEqual(gap(added), gap_told(added))
                found.append(gap(added))
        self.assertGreater(len([told for told in found if told is None]), 10)
        self.assertGreater(len([told for told in found if told is not None]), 10)

    def test_not_the_first_choice(self):
        # By the first seven of ten on the others are off at once, by these and also by the next two choices.
        added = Added(list(range(1, 11)), 7)
        self.assertEqual(gap(added), ([1, 2, 3, 4, 5, 6, 10], 7))
        self.assertEqual(gap_told(added), gap(added))
        added = Added([-3, 5, 9, 1, -2, 8, 7, 4, 6, -10], 7)
        self.assertEqual(gap(added), ([-3, 5, 9, 1, -2, 8, -10], 7))

    def test_said_has_none(self):
        for word in ("pairs", "row", "tree", "nets", "groups"):
            for many in range(1, 7):
                for most in range(many + 1):
                    self.assertIsNone(gap(Said(marks_for(many), most, plan_for(word, many))))
        self.assertIsNone(gap(Said(marks_for(60), 1, plan_for("codes", 60))))
        self.assertIsNone(gap(Said(marks_for(60), 1, plan_for("pairs", 60))))
        self.assertIsNone(gap(Said(marks_for(60), 60, plan_for("pairs", 60))))

    def test_great_ones(self):
        self.assertEqual(gap(Added(marks_for(60), 1)), gap_told(Added(marks_for(60), 1)))
        added = Added(marks_for(22), 2)
        self.assertEqual(gap(added), gap_told(added))
        added = Added(marks_for(22), 21)
        self.assertEqual(gap(added), gap_told(added))
        self.assertIsNone(gap(Added(marks_for(60), 60)))

    def test_too_many(self):
        for many, most in ((60, 2), (60, 30), (60, 58), (24, 2), (24, 22), (11, 4), (11, 7)):
            for said in (Added(marks_for(many), most), self.said_of(many, most)):
                if said is not None:
                    with self.assertRaises(TooMany) as caught:
                        gap(said)
                    self.assertEqual(caught.exception.many, math.comb(many, most))
        # Up to 256 of them are looked at.
        for many, most in ((23, 2), (23, 21), (10, 5), (10, 4), (60, 59), (60, 1)):
            gap(Added(marks_for(many), most))

    def said_of(self, many, most):
        try:
            return Said(marks_for(many), most, plan_for("row", many))
        except TooMany:
            return None

    def test_new(self):
        added = Added([1, 2, 3, 4], 1)
        gap(added)[0].clear()
        self.assertEqual(gap(added), ([1], 2))


if __name__ == "__main__":
    unittest.main()
