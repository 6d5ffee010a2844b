"""Plain bounds, and settings that are apart [19, 20]."""

import itertools
import math
import random
import unittest

from mostclauses.errors import TooMany
from mostclauses.plain import apart, are_apart, first_unlike
from mostclauses.said import Said
from mostclauses.words import plan_for
from tellings import all_hold


def marks_for(many, start=1):
    """Some marks, by turns of either sign."""
    return [name if name % 2 else -name for name in range(start, start + many)]


def plain_clauses(marks, most):
    """The clauses that say it plainly, one for each choice of one more than MOST."""
    return [tuple(-mark for mark in chosen) for chosen in itertools.combinations(marks, most + 1)]


def unlike_settings(marks, most, clauses):
    """All settings, as sets of the marks that are on, in which the clauses don't say it."""
    found = set()
    for sides in itertools.product((1, -1), repeat=len(marks)):
        state = {mark * side for mark, side in zip(marks, sides)}
        on = frozenset(mark for mark in marks if mark in state)
        if all_hold(clauses, state) != (len(on) <= most):
            found.add(on)
    return found


class TestFirstUnlike(unittest.TestCase):

    def is_as_told(self, marks, most, clauses):
        told = first_unlike(marks, most, clauses)
        found = unlike_settings(marks, most, clauses)
        if not found:
            self.assertIsNone(told)
        else:
            self.assertIsInstance(told, list)
            self.assertEqual(len(set(told)), len(told))
            self.assertIn(frozenset(told), found)
        return told

    def test_small(self):
        self.assertIsNone(first_unlike([1, 2], 1, [(-1, -2)]))
        self.assertEqual(sorted(first_unlike([1, 2], 1, [])), [1, 2])
        self.assertEqual(first_unlike([1, 2], 1, [(-1,), (-1, -2)]), [1])
        self.assertEqual(first_unlike([1, -2], 0, [(-1,)]), [-2])
        self.assertEqual(first_unlike([1], 1, [()]) in ([], [1]), True)
        self.assertEqual(first_unlike([1], 0, [()]), [])
        self.assertEqual(first_unlike([7], 0, []), [7])
        self.assertIsNone(first_unlike([7], 1, []))
        self.assertIsNone(first_unlike([-7], 0, [(7,)]))

    def test_plain_ones_and_spoilt_ones(self):
        chance = random.Random(19)
        for many in range(1, 8):
            marks = marks_for(many, 3)
            for most in range(many + 2):
                clauses = plain_clauses(marks, most)
                chance.shuffle(clauses)
                self.assertIsNone(self.is_as_told(marks, most, clauses))
                self.assertIsNone(self.is_as_told(marks, most, clauses + clauses[:2]))
                if 1 <= most <= many:
                    self.assertIsNotNone(self.is_as_told(marks, most - 1, clauses))
                for at in chance.sample(range(len(clauses)), min(4, len(clauses))):
                    self.spoil(chance, marks, most, clauses, at)

    def spoil(self, chance, marks, most, clauses, at):
        """One clause left out, or with a mark less, more, or turned."""
        clause = clauses[at]
        others = clauses[:at] + clauses[at + 1:]
        self.assertIsNotNone(self.is_as_told(marks, most, others))
        out = chance.choice(clause)
        fewer = tuple(mark for mark in clause if mark != out)
        self.assertIsNotNone(self.is_as_told(marks, most, others + [fewer]))
        turned = tuple(-mark if mark == out else mark for mark in clause)
        self.assertIsNotNone(self.is_as_told(marks, most, others + [turned]))
        left = [mark for mark in marks if -mark not in clause]
        if left:
            more = clause + (chance.choice(left) * chance.choice((1, -1)),)
            self.is_as_told(marks, most, others + [more])

    def test_a_mark_more(self):
        # Of three, at most one: (-1, -2, 3) lets 1 and 2 be on beside 3, which (-1, -3) bars; without 3 nothing does.
        self.assertEqual(first_unlike([1, 2, 3], 1, [(-1, -2, -3), (-1, -3), (-2, -3)]), [1, 2])
        self.assertIsNone(first_unlike([1, 2, 3], 1, [(-1, -2, 3), (-1, -3), (-2, -3)]))

    def test_clauses_by_chance(self):
        chance = random.Random(20)
        for _ in range(1500):
            many = chance.randrange(1, 6)
            marks = chance.sample(marks_for(9), many)
            clauses = []
            for _ in range(chance.randrange(7)):
                some = chance.sample(marks, chance.randrange(0 if chance.random() < 0.1 else 1, many + 1))
                clauses.append(tuple(mark * chance.choice((1, -1, -1, -1)) for mark in some))
            self.is_as_told(marks, chance.randrange(many + 1), clauses)

    def test_twelve_marks(self):
        chance = random.Random(21)
        for many in (8, 10, 12):
            marks = marks_for(many, 40)
            for most in (0, 1, 2, many // 2, many - 2, many - 1, many, 60):
                clauses = plain_clauses(marks, most)
                self.assertIsNone(first_unlike(marks, most, clauses))
                if clauses:
                    at = chance.randrange(len(clauses))
                    told = first_unlike(marks, most, clauses[:at] + clauses[at + 1:])
                    self.assertEqual(set(told), {-mark for mark in clauses[at]})
                else:
                    self.assertEqual(sorted(first_unlike(marks, most, [tuple(marks)])), [])

    def test_only_one_setting_is_unlike(self):
        # A clause of all marks is broken by just one setting.
        chance = random.Random(22)
        for many in (1, 5, 9, 12):
            marks = marks_for(many)
            for most in range(many + 1):
                on = chance.sample(marks, chance.randrange(most + 1))
                clause = tuple(-mark if mark in on else mark for mark in marks)
                told = first_unlike(marks, most, plain_clauses(marks, most) + [clause])
                self.assertEqual(sorted(told), sorted(on))

    def test_many_clauses(self):
        marks = marks_for(12)
        clauses = plain_clauses(marks, 5)
        longer = [clause + (-mark,) for clause in clauses for mark in marks if -mark not in clause]
        self.assertIsNone(first_unlike(marks, 5, longer * 3 + clauses))
        self.assertEqual(len(longer), 5544)
        self.assertIsNotNone(first_unlike(marks, 5, longer * 3 + clauses[1:]))

    def test_pairs_say_it_plainly(self):
        for many in (1, 4, 6):
            for most in range(many + 1):
                marks = marks_for(many)
                self.assertIsNone(first_unlike(marks, most, Said(marks, most, plan_for("pairs", many)).clauses()))

    def test_not_changed(self):
        marks, clauses = [1, -2, 3], [(-1, 2)]
        told = first_unlike(marks, 1, clauses)
        told.append(9)
        self.assertEqual((marks, clauses), ([1, -2, 3], [(-1, 2)]))
        self.assertNotIn(9, first_unlike(marks, 1, clauses))


def pairs_apart(most, settings):
    """Whether settings are apart, by a look at each two."""
    if any(len(setting) <= most for setting in settings):
        return False
    return all(len(set(one) & set(other)) <= most for one, other in itertools.combinations(settings, 2))


class TestApart(unittest.TestCase):

    def test_small(self):
        self.assertEqual(sorted(sorted(setting) for setting in apart([1, 2], 1)), [[1, 2]])
        self.assertEqual(sorted(sorted(setting) for setting in apart([1, -2], 0)), [[-2], [1]])
        self.assertEqual(len(apart([1, 2, 3], 1)), 3)
        self.assertEqual(apart([1, 2], 2), [])
        self.assertEqual(apart([5], 60), [])

    def test_as_many_as_pairs(self):
        for many in range(1, 10):
            marks = marks_for(many)
            for most in range(many + 2):
                settings = apart(marks, most)
                self.assertIsInstance(settings, list)
                self.assertEqual(len(settings), len(Said(marks, most, plan_for("pairs", many))))
                self.assertTrue(pairs_apart(most, settings))
                self.assertTrue(are_apart(marks, most, settings))
                for setting in settings:
                    self.assertIsInstance(setting, list)
                    self.assertEqual(len(set(setting)), len(setting))
                    self.assertLessEqual(set(setting), set(marks))

    def test_great_ones(self):
        for many, most in ((60, 0), (60, 1), (60, 58), (60, 59), (60, 60), (24, 2), (15, 4), (15, 9), (14, 5), (25, 22)):
            marks = marks_for(many)
            settings = apart(marks, most)
            self.assertEqual(len(settings), math.comb(many, most + 1))
            self.assertTrue(are_apart(marks, most, settings))

    def test_too_many(self):
        for many, most in ((60, 2), (60, 29), (60, 56), (15, 5), (15, 8), (16, 4), (28, 2)):
            with self.assertRaises(TooMany) as caught:
                apart(marks_for(many), most)
            self.assertEqual(caught.exception.many, math.comb(many, most + 1))
        self.assertEqual(len(apart(marks_for(15), 4)), 3003)
        self.assertEqual(len(apart(marks_for(27), 2)), 2925)

    def test_new_and_not_changed(self):
        marks = [1, 2, 3]
        told = apart(marks, 1)
        kept = [list(setting) for setting in told]
        told[0].append(8)
        told.clear()
        self.assertEqual(apart(marks, 1), kept)
        self.assertEqual(marks, [1, 2, 3])


class TestAreApart(unittest.TestCase):

    def test_small(self):
        marks = [1, -2, 3, 4]
        self.assertTrue(are_apart(marks, 1, []))
        self.assertTrue(are_apart(marks, 1, [[1, -2], [3, 4], [1, 3]]))
        self.assertTrue(are_apart(marks, 1, [[1, -2, 3], [4, 3]]))
        self.assertFalse(are_apart(marks, 1, [[1, -2, 3], [4, 3, 1]]))
        self.assertFalse(are_apart(marks, 1, [[1, -2], [3]]))
        self.assertFalse(are_apart(marks, 1, [[]]))
        self.assertFalse(are_apart(marks, 0, [[1], []]))
        self.assertTrue(are_apart(marks, 0, [[1], [-2, 4]]))
        self.assertTrue(are_apart(marks, 3, [[4, 3, -2, 1]]))
        self.assertFalse(are_apart(marks, 4, [[4, 3, -2, 1]]))

    def test_equal_ones_are_two(self):
        self.assertFalse(are_apart([1, 2, 3], 1, [[1, 2], [1, 2]]))
        self.assertFalse(are_apart([1, 2, 3], 1, [[1, 2], [2, 3], [2, 1]]))
        self.assertFalse(are_apart([1, 2, 3], 60, [[1, 2, 3], [1, 2, 3]]))

    def test_by_chance(self):
        chance = random.Random(23)
        told = []
        for _ in range(3000):
            many = chance.randrange(1, 9)
            marks = chance.sample(marks_for(12), many)
            most = chance.randrange(many + 1)
            settings = []
            for _ in range(chance.randrange(6)):
                settings.append(chance.sample(marks, chance.randrange(min(most + 1, many), many + 1)))
            told.append(are_apart(marks, most, settings))
            self.assertEqual(told[-1], pairs_apart(most, settings))
        self.assertGreater(told.count(True), 500)
        self.assertGreater(told.count(False), 500)

    def test_great_ones(self):
        chance = random.Random(24)
        marks = marks_for(60)
        settings = [list(setting) for setting in itertools.combinations(marks[:15], 5)]
        chance.shuffle(settings)
        self.assertTrue(are_apart(marks, 4, settings))
        settings.append(settings[0][:4] + [marks[40]])
        self.assertTrue(are_apart(marks, 4, settings))
        settings.append(settings[0][:4] + [marks[40], marks[41]])
        self.assertFalse(are_apart(marks, 4, settings))
        self.assertTrue(are_apart(marks, 59, [marks]))
        self.assertTrue(are_apart(marks, 30, [marks[:31], marks[29:]]))
        self.assertFalse(are_apart(marks, 30, [marks[:31], marks]))

    def test_not_changed(self):
        marks, settings = [1, 2, 3], [[1, 2], [2, 3]]
        are_apart(marks, 1, settings)
        self.assertEqual((marks, settings), ([1, 2, 3], [[1, 2], [2, 3]]))


if __name__ == "__main__":
    unittest.main()
