"""Least plans [21]."""

import itertools
import random
import unittest

from mostclauses.knots import sizes
from mostclauses.least import least
from mostclauses.plans import is_plan, size_of
from mostclauses.words import plan_for
from tellings import choices_of


def is_part_that_counts(part):
    """Whether it is a 1, sums of ones, sums of two parts, or a net, of such."""
    if part == 1:
        return True
    if part[0] == "sums" and all(one == 1 for one in part[1:]):
        return True
    return len(part) == 3 and all(is_part_that_counts(one) for one in part[1:])


def is_plan_that_counts(plan):
    if all(one == 1 for one in plan[1:]):
        return True
    return plan[0] == "pairs" and len(plan) == 3 and all(is_part_that_counts(one) for one in plan[1:])


def parts_that_count(many, ones):
    """All parts that count, of so many marks; ones are the parts of one mark."""
    if many == 1:
        return ones
    found = [("sums",) + (1,) * many]
    for first in range(1, many):
        for one, other in itertools.product(parts_that_count(first, ones), parts_that_count(many - first, ones)):
            found += [("sums", one, other), ("net", one, other)]
    return list(dict.fromkeys(found))


def plans_that_count(many, most, ones):
    found = [("pairs",) + (1,) * many]
    if most == 1:
        found.append(("codes",) + (1,) * many)
    for first in range(1, many):
        both = itertools.product(parts_that_count(first, ones), parts_that_count(many - first, ones))
        found += [("pairs", *two) for two in both]
    return found


def worth(plan, most):
    names, clauses = sizes(plan, most)
    return (clauses, names)


def part_by_chance(chance, many):
    """Any part that counts."""
    if many == 1:
        return 1
    if chance.random() < 0.3:
        return ("sums",) + (1,) * many
    first = chance.randrange(1, many)
    word = chance.choice(("sums", "net"))
    return (word, part_by_chance(chance, first), part_by_chance(chance, many - first))


def least_told_again(many, most):
    """The least worth, told over again: of parts the least of each size, each looked at as part of a plan."""
    cap = most + 1

    def part_worth(part):
        clauses, names = worth(("pairs", part), most)
        return (clauses - (1 if size_of(part) >= cap else 0), names)

    best = [None, 1]
    for size in range(2, many):
        found = [("sums",) + (1,) * size]
        for first in range(1, size):
            found += [(word, best[first], best[size - first]) for word in ("sums", "net")]
        best.append(min(found, key=part_worth))
    found = [("pairs",) + (1,) * many]
    if most == 1:
        found.append(("codes",) + (1,) * many)
    found += [("pairs", best[first], best[many - first]) for first in range(1, many)]
    return min(worth(plan, most) for plan in found)


class TestLeast(unittest.TestCase):

    def is_as_told(self, many, most):
        told = least(many, most)
        self.assertIsInstance(told, tuple)
        plan, names, clauses = told
        self.assertTrue(is_plan(plan))
        self.assertTrue(is_plan_that_counts(plan))
        self.assertEqual(size_of(plan), many)
        self.assertTrue(plan[0] == "pairs" or most == 1)
        self.assertEqual((names, clauses), sizes(plan, most))
        return (clauses, names)

    def test_small(self):
        self.assertEqual(least(1, 0), (("pairs", 1), 0, 1))
        self.assertEqual(least(3, 1), (("pairs", 1, 1, 1), 0, 3))
        for many, most, names, clauses in ((1, 1, 0, 0), (2, 1, 0, 1), (5, 0, 0, 5), (4, 3, 0, 1), (4, 4, 0, 0), (24, 24, 0, 0)):
            self.assertEqual(least(many, most)[1:], (names, clauses))

    def test_against_all_plans_that_count(self):
        for many, mosts, ones in (
            (1, 3, [1, ("sums", 1)]), (2, 4, [1, ("sums", 1)]), (3, 5, [1, ("sums", 1)]), (4, 6, [1, ("sums", 1)]),
            (5, 7, [1]), (6, 8, [1]), (7, 3, [1]),
        ):
            for most in range(mosts):
                fewest = min(worth(plan, most) for plan in plans_that_count(many, most, ones))
                self.assertEqual(self.is_as_told(many, most), fewest, (many, most))

    def test_all_sizes(self):
        for many in range(1, 25):
            for most in range(25):
                told = self.is_as_told(many, most)
                if many > 14 and most % 6 != 1:
                    continue
                self.assertEqual(told, least_told_again(many, most), (many, most))

    def test_not_more_than_any_of_the_words(self):
        for many in range(1, 25):
            for most in range(25):
                told = self.is_as_told(many, most)
                self.assertLessEqual(told, worth(plan_for("pairs", many), most))
                self.assertLessEqual(told, worth(plan_for("tree", many), most))
                self.assertLessEqual(told, worth(plan_for("nets", many), most))
                self.assertLessEqual(told, worth(plan_for("row", many), most))
                if most == 1:
                    self.assertLessEqual(told, worth(plan_for("codes", many), most))

    def test_not_more_than_any_by_chance(self):
        chance = random.Random(21)
        for _ in range(1500):
            many, most = chance.randrange(2, 25), chance.choice((0, 1, 1, 2, 3, 4, 7, 12))
            first = chance.randrange(1, many)
            plan = ("pairs", part_by_chance(chance, first), part_by_chance(chance, many - first))
            self.assertLessEqual(self.is_as_told(many, most), worth(plan, most))

    def test_joined_beats_ones(self):
        # Ones of 6 by 2 need a clause for each three of them.
        self.assertEqual(len(choices_of([1] * 6, 3)), 20)
        self.assertLess(least(6, 2)[2], 20)
        self.assertLess(least(24, 12)[2], 300)

    def test_told_the_same(self):
        for many, most in ((7, 2), (13, 1), (24, 11)):
            self.assertEqual(least(many, most), least(many, most))


if __name__ == "__main__":
    unittest.main()
