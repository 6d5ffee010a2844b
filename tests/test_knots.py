"""Knots, each at its own words [11, 12], and the sizes of plans [13]."""

import functools
import itertools
import math
import random
import unittest

from mostclauses.errors import TooMany
from mostclauses.knots import codes_knot, net_knot, pairs_knot, sizes, sums_knot
from mostclauses.words import plan_for
from tellings import all_hold, all_on, choices_of, lengthened, plan_by_chance, small_plans


def rows_of(lens, start=1):
    """Rows of these lens, of marks numbered on."""
    rows = []
    for length in lens:
        rows.append(tuple(range(start, start + length)))
        start += length
    return rows


def marks_of(rows, counts):
    return tuple(row[count - 1] for row, count in zip(rows, counts) if count)


def others(marks):
    return tuple(-mark for mark in marks)


def sums_told(rows, cap, first):
    """The knot of sums, said over again from [12]."""
    names, clauses = [], []
    lens = [len(row) for row in rows]
    for total in range(1, min(cap, sum(lens)) + 1):
        chosen = [marks_of(rows, counts) for counts in choices_of(lens, total)]
        names.append((first + total - 1, tuple(chosen)))
        clauses += [others(marks) + (first + total - 1,) for marks in chosen]
    return tuple(rows), tuple(names), tuple(clauses), tuple(name for name, _ in names)


def net_told(one, other, cap, first):
    """The knot of a net, said over again from [12]."""
    names, clauses = [], []

    def high(left, right):
        name = first + len(names)
        names.append((name, ((left,), (right,))))
        clauses.extend([(-left, name), (-right, name)])
        return name

    def low(left, right):
        name = first + len(names)
        names.append((name, ((left, right),)))
        clauses.append((-left, -right, name))
        return name

    def merging(lefts, rights, c):
        if not lefts:
            return rights[:c]
        if not rights or c == 0:
            return lefts[:c]
        if len(lefts) == len(rights) == 1:
            told = [high(lefts[0], rights[0])]
            if c > 1:
                told.append(low(lefts[0], rights[0]))
            return told
        odd = merging(lefts[0::2], rights[0::2], c // 2 + 1)
        even = merging(lefts[1::2], rights[1::2], c // 2)
        told = [odd.pop(0)]
        while len(told) < c and (odd or even):
            if odd and even:
                left, right = odd.pop(0), even.pop(0)
                told.append(high(left, right))
                if len(told) < c:
                    told.append(low(left, right))
            else:
                told.append((odd or even).pop(0))
        return told

    outs = merging(list(one), list(other), cap)
    return (tuple(one), tuple(other)), tuple(names), tuple(clauses), tuple(outs)


@functools.lru_cache(maxsize=None)
def many_told(lens, total):
    """How many choices of counts there are, one row taken off at a time."""
    if total < 0 or not lens:
        return int(total == 0)
    return sum(many_told(lens[1:], total - count) for count in range(lens[0] + 1))


class Knots(unittest.TestCase):

    def counts_rightly(self, knot, cap):
        """That the outs count, by the meanings, by what is on alone, and by what is off, at all counts of the rows."""
        rows, names, clauses, outs = knot
        marks = [mark for row in rows for mark in row]
        self.assertEqual(len(outs), min(cap, len(marks)))
        for counts in itertools.product(*[range(len(row) + 1) for row in rows]):
            on = [mark for row, count in zip(rows, counts) for mark in row[:count]]
            total = sum(counts)
            state = lengthened(marks, names, on)
            self.assertTrue(all_hold(clauses, state), counts)
            self.assertEqual([out in state for out in outs], [place < total for place in range(len(outs))])
            self.assertLessEqual(set(outs[:total]), all_on(clauses, on))
            if total < len(outs):
                now = all_on(clauses, on + [-outs[total]])
                self.assertTrue(all(-row[count] in now for row, count in zip(rows, counts) if count < len(row)))


class TestSums(Knots):

    def test_two_ones(self):
        self.assertEqual(sums_knot([(1,), (2,)], 2, 3), (
            ((1,), (2,)),
            ((3, ((2,), (1,))), (4, ((1, 2),))),
            ((-2, 3), (-1, 3), (-1, -2, 4)),
            (3, 4),
        ))

    def test_rows(self):
        self.assertEqual(sums_knot([(5, 6), (-7,)], 2, 100), (
            ((5, 6), (-7,)),
            ((100, ((-7,), (5,))), (101, ((5, -7), (6,)))),
            ((7, 100), (-5, 100), (-5, 7, 101), (-6, 101)),
            (100, 101),
        ))
        self.assertEqual(sums_knot([(5, 6), (-7,)], 3, 100), (
            ((5, 6), (-7,)),
            ((100, ((-7,), (5,))), (101, ((5, -7), (6,))), (102, ((6, -7),))),
            ((7, 100), (-5, 100), (-5, 7, 101), (-6, 101), (-6, 7, 102)),
            (100, 101, 102),
        ))

    def test_one_row(self):
        self.assertEqual(sums_knot([(4, 5, 6)], 2, 7), (
            ((4, 5, 6),), ((7, ((4,),)), (8, ((5,),))), ((-4, 7), (-5, 8)), (7, 8)))
        self.assertEqual(sums_knot([(9,)], 5, 30), (((9,),), ((30, ((9,),)),), ((-9, 30),), (30,)))

    def test_rows_longer_than_the_cap(self):
        knot = sums_knot([(1, 2, 3), (4, 5, 6)], 2, 10)
        self.assertEqual(knot[0], ((1, 2, 3), (4, 5, 6)))
        self.assertEqual(knot[2], ((-4, 10), (-1, 10), (-5, 11), (-1, -4, 11), (-2, 11)))
        self.assertEqual(knot[3], (10, 11))

    def test_as_told(self):
        for many in (1, 2, 3):
            for lens in itertools.product((1, 2, 3), repeat=many):
                for cap in range(1, 11):
                    rows = rows_of(lens)
                    knot = sums_knot(rows, cap, 50)
                    self.assertEqual(knot, sums_told(rows, cap, 50))
                    self.counts_rightly(knot, cap)

    def test_outs_to_the_lesser_one(self):
        for cap in range(1, 62):
            self.assertEqual(sums_knot(rows_of([30, 30]), cap, 61)[3], tuple(range(61, 61 + min(cap, 60))))

    def test_too_many_of_one_total(self):
        rows = rows_of([1] * 15)
        with self.assertRaises(TooMany) as caught:
            sums_knot(rows, 15, 16)
        self.assertEqual(caught.exception.many, math.comb(15, 6))
        self.assertEqual(len(sums_knot(rows, 5, 16)[2]), sum(math.comb(15, total) for total in range(1, 6)))


class TestNet(Knots):

    def test_two_ones(self):
        self.assertEqual(net_knot((1,), (2,), 2, 3), (
            ((1,), (2,)), ((3, ((1,), (2,))), (4, ((1, 2),))), ((-1, 3), (-2, 3), (-1, -2, 4)), (3, 4)))
        self.assertEqual(net_knot((1,), (-2,), 1, 3), (((1,), (-2,)), ((3, ((1,), (-2,))),), ((-1, 3), (2, 3)), (3,)))

    def test_one_and_two(self):
        self.assertEqual(net_knot((1,), (2, 3), 3, 4), (
            ((1,), (2, 3)),
            ((4, ((1,), (2,))), (5, ((1, 2),)), (6, ((5,), (3,))), (7, ((5, 3),))),
            ((-1, 4), (-2, 4), (-1, -2, 5), (-5, 6), (-3, 6), (-5, -3, 7)),
            (4, 6, 7),
        ))

    def test_two_and_two(self):
        odd = ((10, ((1,), (3,))), (11, ((1, 3),)))
        self.assertEqual(net_knot((1, 2), (3, 4), 4, 10), (
            ((1, 2), (3, 4)),
            odd + ((12, ((2,), (4,))), (13, ((2, 4),)), (14, ((11,), (12,))), (15, ((11, 12),))),
            ((-1, 10), (-3, 10), (-1, -3, 11), (-2, 12), (-4, 12), (-2, -4, 13),
             (-11, 14), (-12, 14), (-11, -12, 15)),
            (10, 14, 15, 13),
        ))
        self.assertEqual(net_knot((1, 2), (3, 4), 3, 10), (
            ((1, 2), (3, 4)),
            odd + ((12, ((2,), (4,))), (13, ((11,), (12,))), (14, ((11, 12),))),
            ((-1, 10), (-3, 10), (-1, -3, 11), (-2, 12), (-4, 12), (-11, 13), (-12, 13), (-11, -12, 14)),
            (10, 13, 14),
        ))
        self.assertEqual(net_knot((1, 2), (3, 4), 2, 10), (
            ((1, 2), (3, 4)),
            odd + ((12, ((2,), (4,))), (13, ((11,), (12,)))),
            ((-1, 10), (-3, 10), (-1, -3, 11), (-2, 12), (-4, 12), (-11, 13), (-12, 13)),
            (10, 13),
        ))
        self.assertEqual(net_knot((1, 2), (3, 4), 1, 10), (
            ((1, 2), (3, 4)), ((10, ((1,), (3,))),), ((-1, 10), (-3, 10)), (10,)))

    def test_as_told(self):
        for one, other, cap in itertools.product(range(1, 8), range(1, 8), range(1, 15)):
            first, second = rows_of([one, other])
            knot = net_knot(first, second, cap, 100)
            self.assertEqual(knot, net_told(first, second, cap, 100))
            self.counts_rightly(knot, cap)

    def test_great_ones(self):
        for one, other, cap in ((30, 30, 60), (30, 30, 61), (1, 59, 60), (59, 1, 31), (45, 15, 17), (60, 60, 61)):
            first, second = rows_of([one, other])
            knot = net_knot(first, second, cap, 200)
            self.assertEqual(knot, net_told(first, second, cap, 200))
            self.assertEqual(len(knot[3]), min(cap, one + other))

    def test_an_empty_one(self):
        self.assertEqual(net_knot((), (4, 5, 6), 2, 7), (((), (4, 5, 6)), (), (), (4, 5)))
        self.assertEqual(net_knot((4, 5, 6), (), 5, 7), (((4, 5, 6), ()), (), (), (4, 5, 6)))
        self.assertEqual(net_knot((4,), (5,), 0, 7), (((4,), (5,)), (), (), ()))


class TestPairs(unittest.TestCase):

    def test_small(self):
        self.assertEqual(pairs_knot([(1,), (2,), (3,)], 1), (
            ((1,), (2,), (3,)), (), ((-2, -3), (-1, -3), (-1, -2)), ()))
        self.assertEqual(pairs_knot([(1,), (-2,)], 0), (((1,), (-2,)), (), ((2,), (-1,)), ()))
        self.assertEqual(pairs_knot([(1,), (2,)], 2), (((1,), (2,)), (), (), ()))
        self.assertEqual(pairs_knot([(1, 2), (3, 4)], 1), (((1, 2), (3, 4)), (), ((-4,), (-1, -3), (-2,)), ()))

    def test_as_told(self):
        for many in (1, 2, 3, 4):
            for lens in itertools.product((1, 2, 3), repeat=many):
                for most in range(sum(lens) + 2):
                    rows = rows_of(lens)
                    clauses = tuple(others(marks_of(rows, counts)) for counts in choices_of(lens, most + 1))
                    self.assertEqual(pairs_knot(rows, most), (tuple(rows), (), clauses, ()))

    def test_too_many(self):
        with self.assertRaises(TooMany) as caught:
            pairs_knot(rows_of([1] * 60), 2)
        self.assertEqual(caught.exception.many, math.comb(60, 3))


class TestCodes(unittest.TestCase):

    def test_small(self):
        self.assertEqual(codes_knot([(1,)], 5), (((1,),), (), (), ()))
        self.assertEqual(codes_knot([(1, 2)], 5), (((1, 2),), (), ((-2,),), ()))
        self.assertEqual(codes_knot([(1,), (2,)], 5), (
            ((1,), (2,)), ((5, ((2,),)),), ((-1, -5), (-2, 5)), ()))
        self.assertEqual(codes_knot([(1, 9), (2,), (-3, 8)], 10), (
            ((1, 9), (2,), (-3, 8)),
            ((10, ((2,),)), (11, ((-3,),))),
            ((-9,), (-8,), (-1, -10), (-1, -11), (-2, 10), (-2, -11), (3, -10), (3, 11)),
            (),
        ))

    def test_names_by_digits(self):
        for many in range(1, 61):
            _, names, clauses, outs = codes_knot(rows_of([1] * many), 100)
            digits = len(bin(many - 1)) - 2 if many > 1 else 0
            self.assertEqual([name for name, _ in names], list(range(100, 100 + digits)))
            self.assertEqual(outs, ())
            self.assertEqual(len(clauses), many * digits)
            for place, (_, meaning) in enumerate(names):
                self.assertEqual(meaning, tuple((row + 1,) for row in range(many) if row // 2 ** place % 2 == 1))
            self.assertEqual(list(clauses), [
                (-row - 1, (100 + place) * (1 if row // 2 ** place % 2 == 1 else -1))
                for row in range(many) for place in range(digits)])


class TestHandedIn(unittest.TestCase):

    def test_copied(self):
        for make in (lambda rows: sums_knot(rows, 3, 20), lambda rows: pairs_knot(rows, 1),
                     lambda rows: codes_knot(rows, 20)):
            rows = [(1, 2), (3,)]
            knot = make(rows)
            self.assertEqual(rows, [(1, 2), (3,)])
            rows[0] = (7,)
            rows.append((8,))
            self.assertEqual(knot, make([(1, 2), (3,)]))
            self.assertIsInstance(knot, tuple)
            self.assertEqual([type(part) for part in knot], [tuple] * 4)


class TestSizes(unittest.TestCase):

    def test_small(self):
        self.assertEqual(sizes(("pairs", 1), 0), (0, 1))
        self.assertEqual(sizes(("pairs", 1), 1), (0, 0))
        self.assertEqual(sizes(("pairs", 1, 1, 1), 1), (0, 3))
        self.assertEqual(sizes(("pairs", ("sums", 1, 1), 1), 1), (2, 5))
        self.assertEqual(sizes(("pairs", ("net", 1, 1), 1), 1), (2, 5))
        self.assertEqual(sizes(("pairs", ("net", 1, 1), 1), 0), (1, 4))
        self.assertEqual(sizes(("codes", 1), 1), (0, 0))
        self.assertEqual(sizes(("codes", 1, 1, 1), 1), (2, 6))
        self.assertEqual(sizes(("codes", ("sums", 1, 1), 1), 1), (3, 6))
        self.assertEqual(sizes(("codes", ("sums", 1, 1, 1), ("net", 1, 1)), 1), (5, 13))

    def test_counted_not_listed(self):
        for many in range(1, 61):
            for most in range(61):
                self.assertEqual(sizes(plan_for("pairs", many), most), (0, math.comb(many, most + 1)))
        lens = 2 ** 60 - 1
        self.assertEqual(sizes(("pairs", ("sums",) + (1,) * 60), 60), (60, lens))
        self.assertEqual(sizes(("pairs", ("sums", ("sums",) + (1,) * 60)), 59), (120, lens + 61))

    def test_codes_are_by_most_one(self):
        for many in range(1, 61):
            digits = len(bin(many - 1)) - 2 if many > 1 else 0
            self.assertEqual(sizes(plan_for("codes", many), 1), (digits, many * digits))

        for plan in (("codes", ("sums", 1, 1, 1), ("net", 1, 1), 1), ("codes", ("net", ("sums", 1, 1), 1))):
            for most in (0, 2, 5, 60):
                self.assertEqual(sizes(plan, most), sizes(plan, 1))

    def test_against_the_knots(self):
        for many in range(1, 5):
            for plan in small_plans(many):
                for most in range(many + 2):
                    if plan[0] == "pairs" or most == 1:
                        self.is_size(plan, most)

    def test_great_ones_against_the_knots(self):
        chance = random.Random(3)
        for _ in range(150):
            many = chance.randrange(5, 61)
            most = chance.choice((0, 1, 2, 3, 5, 10, 30, 60))
            plan = plan_by_chance(chance, many)
            if sizes(plan, most)[1] <= 3003:
                self.is_size(plan, most)
            self.is_size(plan_by_chance(chance, min(many, 9), "codes"), 1)

    def is_size(self, plan, most):
        """That a plan's size is that of knots by the tellings."""
        self.marks = itertools.count(1)
        self.knots = []
        rows = [self.row_told(part, most + 1) for part in plan[1:]]
        names = sum(len(knot[1]) for knot in self.knots)
        clauses = sum(len(knot[2]) for knot in self.knots)
        if plan[0] == "codes":
            last = codes_knot(rows, 10 ** 6)
            names, clauses = names + len(last[1]), clauses + len(last[2])
        else:
            clauses += many_told(tuple(len(row) for row in rows), most + 1)
        self.assertEqual(sizes(plan, most), (names, clauses))

    def row_told(self, part, cap):
        if part == 1:
            return (next(self.marks),)
        rows = [self.row_told(one, cap) for one in part[1:]]
        if part[0] == "net":
            knot = net_told(rows[0], rows[1], cap, 10 ** 6)
        elif sum(len(row) for row in rows) <= 12:
            knot = sums_told(rows, cap, 10 ** 6)
        else:
            knot = sums_knot(rows, cap, 10 ** 6)
        self.knots.append(knot)
        return tuple(next(self.marks) for _ in knot[3])


if __name__ == "__main__":
    unittest.main()
