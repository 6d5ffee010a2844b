"""Counts [8]."""

import itertools
import math
import random
import unittest

from mostclauses.counts import choices, how_many
from mostclauses.errors import TooMany


def all_choices(lens, total):
    """All choices, by a look at each tuple of counts."""
    return [counts for counts in itertools.product(*[range(length + 1) for length in lens]) if sum(counts) == total]


class TestHowMany(unittest.TestCase):

    def test_small(self):
        self.assertEqual(how_many([2, 2], 2), 3)
        self.assertEqual(how_many([1, 1, 1], 2), 3)
        self.assertEqual(how_many([3], 2), 1)
        self.assertEqual(how_many([3], 4), 0)
        self.assertEqual(how_many([0], 0), 1)
        self.assertEqual(how_many([0, 0], 1), 0)

    def test_against_all(self):
        for many in (1, 2, 3):
            for lens in itertools.product(range(5), repeat=many):
                for total in range(many * 4 + 3):
                    with self.subTest(lens=lens, total=total):
                        self.assertEqual(how_many(list(lens), total), len(all_choices(lens, total)))

    def test_of_ones(self):
        for many in (1, 2, 17, 59, 60):
            for total in range(62):
                self.assertEqual(how_many([1] * many, total), math.comb(many, total))

    def test_great(self):
        self.assertEqual(how_many([12] * 60, 0), 1)
        self.assertEqual(how_many([12] * 60, 1), 60)
        self.assertEqual(how_many([12] * 60, 720), 1)
        self.assertEqual(how_many([12] * 60, 719), 60)
        self.assertEqual(how_many([60] * 12, 60), math.comb(71, 11))
        self.assertEqual(sum(how_many([12] * 60, total) for total in range(721)), 13 ** 60)
        for total in (0, 1, 100, 359, 360):
            self.assertEqual(how_many([12] * 60, total), how_many([12] * 60, 720 - total))

    def test_beyond_the_sum(self):
        for total in (721, 799, 800):
            self.assertEqual(how_many([12] * 60, total), 0)
        self.assertEqual(how_many([60], 60), 1)
        self.assertEqual(how_many([60], 61), 0)
        self.assertEqual(how_many([0] * 60, 0), 1)
        self.assertEqual(how_many([0] * 60, 800), 0)

    def test_somewhat_beyond_the_limits(self):
        self.assertEqual(how_many([1, 1], -1), 0)
        self.assertEqual(how_many([1, 1], -2), 0)
        self.assertEqual(how_many([61, 61], 61), 62)
        self.assertEqual(how_many([1] * 61, 2), 1830)
        self.assertEqual(how_many([60] * 13, 780), 1)
        self.assertEqual(how_many([1], 900), 0)
        self.assertEqual([how_many([], total) for total in (0, 1)], [1, 0])


class TestChoices(unittest.TestCase):

    def test_small(self):
        self.assertEqual(choices([2, 2], 2), [(0, 2), (1, 1), (2, 0)])
        self.assertEqual(choices([1, 1, 1], 2), [(0, 1, 1), (1, 0, 1), (1, 1, 0)])
        self.assertEqual(choices([3], 2), [(2,)])
        self.assertEqual(choices([3], 4), [])
        self.assertEqual(choices([0], 0), [(0,)])
        self.assertEqual(choices([0, 2, 0], 1), [(0, 1, 0)])
        self.assertEqual(choices([1, 1], -1), [])
        self.assertEqual([choices([], total) for total in (0, 1)], [[()], []])

    def test_against_all(self):
        for many in (1, 2, 3, 4):
            for lens in itertools.product(range(4), repeat=many):
                for total in range(many * 3 + 2):
                    with self.subTest(lens=lens, total=total):
                        self.assertEqual(choices(list(lens), total), all_choices(lens, total))

    def test_long_ones(self):
        lens = [12] * 60
        self.assertEqual(choices(lens, 0), [(0,) * 60])
        self.assertEqual(choices(lens, 720), [(12,) * 60])
        self.assertEqual(choices(lens, 1), [tuple(int(at == 59 - one) for at in range(60)) for one in range(60)])
        told = choices(lens, 2)
        self.assertEqual(len(told), how_many(lens, 2))
        self.assertEqual(told, sorted(set(told)))
        self.assertTrue(all(sum(counts) == 2 and len(counts) == 60 for counts in told))
        self.assertEqual(choices(lens, 721), [])
        self.assertEqual(choices(lens, 800), [])

    def test_up_to_3003(self):
        for lens, total in (([1] * 15, 5), ([1] * 15, 10), ([1] * 14, 6), ([1] * 14, 8)):
            self.assertEqual(how_many(lens, total), 3003)
            told = choices(lens, total)
            self.assertEqual(len(told), 3003)
            self.assertEqual(told, all_choices(lens, total))
        self.assertEqual(len(choices([3002, 5000], 3002)), 3003)

    def test_too_many(self):
        for lens, total in (([3003, 5000], 3003), ([1] * 60, 3), ([1] * 60, 30), ([12] * 60, 360), ([60] * 12, 60),
                            ([1] * 15, 6), ([1] * 15, 7)):
            with self.assertRaises(TooMany) as caught:
                choices(lens, total)
            self.assertEqual(caught.exception.many, how_many(lens, total))
            self.assertGreater(caught.exception.many, 3003)
        with self.assertRaises(TooMany) as caught:
            choices([3003, 5000], 3003)
        self.assertEqual(caught.exception.many, 3004)

    def test_by_chance(self):
        chance = random.Random(8)
        for _ in range(200):
            lens = [chance.randrange(7) for _ in range(chance.randrange(1, 7))]
            total = chance.randrange(sum(lens) + 2)
            many = how_many(lens, total)
            self.assertEqual(many, len(all_choices(lens, total)))
            if many <= 3003:
                self.assertEqual(choices(lens, total), all_choices(lens, total))

    def test_not_changed_and_new(self):
        lens = [2, 1, 3]
        told = choices(lens, 3)
        self.assertEqual(how_many(lens, 3), len(told))
        self.assertEqual(lens, [2, 1, 3])
        kept = list(told)
        told.clear()
        self.assertEqual(choices(lens, 3), kept)


if __name__ == "__main__":
    unittest.main()
