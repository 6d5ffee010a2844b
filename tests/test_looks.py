"""The looker [16 to 18]: what is a knot, and what is wrong first of knots that anybody made."""

import itertools
import math
import random
import unittest

from mostclauses.errors import NoKnot, TooMany
from mostclauses.knots import codes_knot, net_knot, pairs_knot, sums_knot
from mostclauses.looks import first_wrong, is_knot
from mostclauses.said import Said
from mostclauses.words import plan_for
from tellings import all_hold, all_on, lengthened, plan_by_chance, small_plans

GREATEST = 10 ** 12
WORDS = ("pairs", "codes", "row", "tree", "nets", "groups")
KNOT = (((1,), (2,)), ((3, ((1,), (2,))), (4, ((1, 2),))), ((-1, 3), (-2, 3), (-1, -2, 4)), (3, 4))
LAST = (((3, 4),), (), ((-4,),), ())


def bare(*rows):
    """A last knot of these rows that says nothing."""
    return (rows, (), (), ())


def many_counts(knot):
    return math.prod(len(row) + 1 for row in knot[0])


def is_built_wrong(marks, most, knots, number):
    """Whether this knot is built wrong, said over again from [17]; those ahead of it are not."""
    free = list(marks)
    outs_of = []
    there = {abs(mark) for mark in marks}
    for at, (rows, names, clauses, outs) in enumerate(knots[:number + 1]):
        under = 0
        for row in rows:
            fitting = [one for one in outs_of if one[0] == row]
            if len(row) == 1 and row[0] in free:
                free.remove(row[0])
                under += 1
            elif fitting:
                outs_of.remove(fitting[0])
                under += fitting[0][1]
            else:
                return True
        used = [abs(mark) for row in rows for mark in row]
        if len(set(used)) < len(used):
            return True
        known = set(used)
        for name, meaning in names:
            if name in there or {abs(mark) for one in meaning for mark in one} - known:
                return True
            there.add(name)
            known.add(name)
        if {abs(mark) for clause in clauses + (outs,) for mark in clause} - known:
            return True
        if at == len(knots) - 1:
            return bool(outs or free or outs_of)
        if len(outs) != min(most + 1, under):
            return True
        outs_of.append((outs, under))
    return False


def wrong_words_at(knot, most, is_last, counts):
    """All words of what is wrong at these counts, said over again from [18]."""
    rows, names, clauses, outs = knot
    total = sum(counts)
    on = [mark for row, count in zip(rows, counts) for mark in row[:count]]
    behind = [-row[count] for row, count in zip(rows, counts) if count < len(row)]
    state = lengthened([mark for row in rows for mark in row], names, on)
    words = []
    if is_last:
        if total <= most and not all_hold(clauses, state):
            words.append("holds")
        if total > most and all_on(clauses, on) is not None:
            words.append("up")
        if total == most:
            now = all_on(clauses, on)
            if now is None or not set(behind) <= now:
                words.append("down")
        return words
    if not all_hold(clauses, state) or [out in state for out in outs] != [at < total for at in range(len(outs))]:
        words.append("holds")
    now = all_on(clauses, on)
    if now is None or not set(outs[:total]) <= now:
        words.append("up")
    if total < len(outs):
        now = all_on(clauses, on + [-outs[total]])
        if now is None or not set(behind) <= now:
            words.append("down")
    return words


def wrong_told(marks, most, knots):
    """What is told of knots, said over again; a number where there are so many counts, too many."""
    for number, knot in enumerate(knots):
        if is_built_wrong(marks, most, knots, number):
            return (number, "built")
        if many_counts(knot) > 256:
            return many_counts(knot)
        for counts in itertools.product(*[range(len(row) + 1) for row in knot[0]]):
            words = wrong_words_at(knot, most, number == len(knots) - 1, counts)
            if words:
                return (number, words[0], counts)
    return None


def what_is_told(marks, most, knots):
    """What the looker tells, a number where it refuses with TooMany."""
    try:
        return first_wrong(marks, most, knots)
    except TooMany as refusal:
        return refusal.many


class TestIsKnot(unittest.TestCase):

    def knots(self, *things):
        for thing in things:
            with self.subTest(thing=thing):
                self.assertIs(is_knot(thing), True)

    def none(self, *things):
        for thing in things:
            with self.subTest(thing=thing):
                self.assertIs(is_knot(thing), False)

    def test_those_that_are_made(self):
        self.knots(KNOT, LAST, pairs_knot([(1,), (2,)], 1), codes_knot([(1, 2), (3,)], 9), net_knot((1, 2), (3,), 3, 9))
        self.knots(sums_knot([(1, 2), (3,), (-4, 5)], 4, 9), sums_knot([(1,) * 3], 2, 7))

    def test_parts_may_be_empty_but_the_rows(self):
        self.knots((((1,),), (), (), ()), (((1,),), (), ((),), ()), (((1,),), ((2, ()),), (), (2,)))
        self.knots((((1,),), ((2, ((),)),), (), ()), (((1,),), ((2, ((), (1,), ())),), ((), (1,)), ()))
        self.none(((), (), (), ()), (((),), (), (), ()), (((1,), ()), (), (), ()), (((), (1,)), (), (), ()))

    def test_any_marks_and_names(self):
        self.knots((((1, 1), (1, -1)), (), (), ()), (((-GREATEST, GREATEST),), (), (), (5, 5, -5)))
        self.knots((((1,),), ((GREATEST, ((7, -7, 7),)), (1, ()), (1, ())), (), ()))
        self.knots((tuple((name,) for name in range(1, 100)), (), (), tuple(range(1, 200))))

    def test_rows(self):
        for rows in ([(1,)], ([1],), (1,), ((0,),), ((1, GREATEST + 1),), ((True,),), ((1, None),), (("1",),), "1", None,
                     1, ((1,), 2), (((1,),),), ((1, (2,)),), ((False,),), ((-GREATEST - 1,),), True):
            self.none((rows, (), (), ()))

    def test_names(self):
        for names in ([], [(2, ())], 2, (2,), ((2,),), ((2, (), ()),), ([2, ()],), ((2, []),), ((2, [(1,)]),),
                      ((2, ([1],)),), ((2, (1,)),), ((2, ((0,),)),), ((2, ((True,),)),), ((0, ()),), ((-2, ()),),
                      ((True, ()),), (("2", ()),), ((None, ()),), ((GREATEST + 1, ()),), ((2, ((1,), 1)),), None, "",
                      ((2, ((1, (1,)),)),), ((2, None),), ((2, ()), 3), ((2, ((1, GREATEST + 1),)),), (((2,), ()),)):
            self.none((((1,),), names, (), ()))

    def test_clauses(self):
        for clauses in ([], [(1,)], 1, (1,), ([1],), ((1, 1),), ((1, -1),), ((0,),), ((True,),), ((1,), (2, GREATEST + 1)),
                        None, "", (tuple(range(1, 66)),), (None,), ((1,), ()[:0], "1"), (((1,),),)):
            self.none((((1,),), (), clauses, ()))
        self.knots((((1,),), (), (tuple(range(1, 65)), ()), ()))

    def test_outs(self):
        for outs in ([], [1], 1, None, "", ((1,),), (0,), (True,), (1, None), (GREATEST + 1,), ("1",)):
            self.none((((1,),), (), (), outs))

    def test_other_things(self):
        deep = 1
        for _ in range(99):
            deep = (deep,)
        self.none(None, True, False, 0, 1, 10 ** 60 - 1, "", "knot", (), [], [[(1,)], [], [], []], deep, [deep])
        self.none((((1,),), (), ()), (((1,),), (), (), (), ()), list(KNOT), [KNOT], (KNOT,), ((1,), (), (), ()))
        self.none((deep, (), (), ()), (((1,),), deep, (), ()), (((1,),), (), deep, ()), (((1,),), (), (), deep))
        self.none((((1, deep),), (), (), ()), (((1,),), ((2, deep),), (), ()), (((1,),), ((deep, ()),), (), ()))


class TestBuilt(unittest.TestCase):

    def let_by(self, marks, most, *knots):
        """That these are let by, so that what is spoilt in them alone is wrong."""
        self.assertIsNone(first_wrong(marks, most, list(knots)))
        self.assertIsNone(wrong_told(marks, most, knots))

    def wrong(self, number, marks, most, *knots):
        self.assertEqual(first_wrong(marks, most, list(knots)), (number, "built"))
        self.assertEqual(wrong_told(marks, most, knots), (number, "built"))

    def test_let_by(self):
        self.let_by([1, 2], 1, KNOT, LAST)
        self.let_by([2, 1], 1, pairs_knot([(1,), (2,)], 1))
        self.let_by([1, -2], 0, pairs_knot([(1,), (-2,)], 0))
        self.let_by([1, 2, 5], 1, KNOT, pairs_knot([(3, 4), (5,)], 1))

    def test_a_row_of_none(self):
        self.wrong(0, [1, 3], 1, bare((1,), (2,)))
        self.wrong(0, [1, -2], 1, bare((1,), (2,)))
        self.wrong(0, [1, 2], 1, bare((1, 2)))
        self.wrong(0, [1, 2], 1, bare((1,), (1,), (2,)))
        self.wrong(0, [1, 2], 1, bare((3, 4)), KNOT)
        for row in ((3, 5), (4, 3), (3,), (3, 4, 1), (3, -4), (-3, -4)):
            self.wrong(1, [1, 2], 1, KNOT, bare(row))
        for rows in (((3,), (4,)), ((1,), (2,)), ((3, 4), (1,)), ((2,), (3, 4))):
            self.wrong(1, [1, 2], 1, KNOT, bare(*rows))

    def test_a_row_used_already(self):
        self.wrong(1, [1, 2, 5], 1, KNOT, bare((3, 4), (3, 4), (5,)))
        self.wrong(2, [1, 2, 5], 1, KNOT, sums_knot([(5,), (3, 4)], 2, 6), bare((6, 7), (3, 4)))
        self.wrong(1, [1, 2, 5], 1, KNOT, sums_knot([(5,), (2,)], 2, 6), bare((6, 7), (3, 4)))

    def test_two_marks_of_one_name(self):
        # Of marks of unlike names none comes to this: outs that would have one name twice don't count rightly.
        self.wrong(0, [1, -1], 0, (((1,), (-1,)), (), ((1,), (-1,)), ()))
        self.assertEqual(first_wrong([1, 2], 1, [KNOT[:3] + ((3, 3),), bare((3, 3))]), (0, "holds", (0, 1)))
        self.assertEqual(first_wrong([1, 2], 1, [KNOT[:3] + ((3, -3),), bare((3, -3))]), (0, "holds", (0, 0)))

    def test_a_name_of_a_mark(self):
        for name in (1, 2, 5):
            knot = (((1,), (2,)), ((name, ((1,), (2,))), (4, ((1, 2),))), (), (name, 4))
            self.wrong(0, [1, 2, 5], 1, knot, bare((name, 4), (5,)))
            self.wrong(0, [1, 2, -5], 1, knot, bare((name, 4), (-5,)))
        self.wrong(0, [1, 2, 3], 1, KNOT, bare((3, 4), (3,)))
        self.wrong(0, [1, 2, -4], 1, KNOT, bare((3, 4), (-4,)))
        self.wrong(0, [1], 0, (((1,),), ((1, ()),), ((-1,),), ()))

    def test_a_name_there_already(self):
        knot = (((1,), (2,)), ((3, ((1,), (2,))), (3, ((1, 2),))), (), (3, 3))
        self.wrong(0, [1, 2], 1, knot, LAST)
        self.wrong(1, [1, 2, 7, 8], 1, KNOT, sums_knot([(7,), (8,)], 2, 4), bare((3, 4), (4, 5)))
        self.wrong(1, [1, 2], 1, KNOT, (((3, 4),), ((3, ()),), ((-4,),), ()))
        self.wrong(1, [1, 2], 1, KNOT, (((3, 4),), ((9, ()), (9, ())), ((-4,),), ()))
        self.let_by([1, 2], 1, KNOT, (((3, 4),), ((9, ()), (8, ())), ((-4,),), ()))
        # A name of a knot ahead of the one whose outs are used is there, too.
        other = sums_knot([(3, 4)], 2, 6)
        self.wrong(2, [1, 2], 1, KNOT, other, (((6, 7),), ((4, ()),), ((-7,),), ()))
        self.let_by([1, 2], 1, KNOT, other, (((6, 7),), ((8, ()),), ((-7,),), ()))

    def test_a_meaning_of_other_names(self):
        for meaning in (((5,),), ((1, -5),), ((1,), (2,), (6,)), ((3,),), ((4,),), ((1,), (-4, 2))):
            knot = (((1,), (2,)), ((3, meaning), (4, ((1, 2),))), KNOT[2], (3, 4))
            self.wrong(0, [1, 2, 5], 1, knot, bare((3, 4), (5,)))
        # Its own new names ahead of it may be there, those of other knots that aren't in its rows may not.
        knot = (((1,), (2,)), ((4, ((1, 2),)), (3, ((1,), (2,), (4,)))), KNOT[2], (3, 4))
        self.let_by([1, 2], 1, knot, LAST)
        self.wrong(1, [1, 2], 1, knot, (((3, 4),), ((9, ((1,),)),), ((-4,),), ()))
        self.let_by([1, 2], 1, knot, (((3, 4),), ((9, ((-3,), (4,))),), ((-4,),), ()))

    def test_a_clause_of_other_names(self):
        for clause in ((5,), (-5,), (1, -2, 5), (-9,)):
            knot = (KNOT[0], KNOT[1], KNOT[2] + (clause,), KNOT[3])
            self.wrong(0, [1, 2, 5], 1, knot, bare((3, 4), (5,)))
            self.wrong(1, [1, 2], 1, KNOT, (((3, 4),), (), ((-4,), clause), ()))
        self.wrong(1, [1, 2], 1, KNOT, (((3, 4),), (), ((-4,), (-1, -2)), ()))
        self.let_by([1, 2], 1, (KNOT[0], KNOT[1], KNOT[2] + ((1, 2, -3),), KNOT[3]), LAST)

    def test_outs_of_other_names(self):
        for outs in ((3, 5), (5, 4), (3, 9), (-9, 4)):
            knot = (KNOT[0], KNOT[1], KNOT[2], outs)
            self.wrong(0, [1, 2, 5], 1, knot, bare(outs, (5,)))

    def test_outs_of_another_length(self):
        for most, many in ((0, 1), (1, 2), (2, 2), (60, 2)):
            for outs in ((), (3,), (3, 4), (3, 4, 1)):
                knot = (KNOT[0], KNOT[1], KNOT[2], outs)
                told = first_wrong([1, 2], most, [knot, bare(outs or (3,))])
                self.assertEqual(told == (0, "built"), len(outs) != many)
        self.wrong(0, [1, 2], 1, (((1,),), (), (), ()), bare((2,)))

    def test_as_many_as_are_under_the_rows(self):
        one = sums_knot([(1,), (2,)], 4, 10)
        self.let_by([1, 2, 3], 3, one, sums_knot([(10, 11), (3,)], 4, 12), pairs_knot([(12, 13, 14)], 3))
        self.wrong(1, [1, 2, 3], 3, one, sums_knot([(10, 11), (3,)], 2, 12), bare((12, 13)))
        self.wrong(1, [1, 2, 3], 2, one, sums_knot([(10, 11), (3,)], 2, 12), bare((12, 13)))
        # Of rows cut to MOST + 1 there are more marks under them than in them.
        one = sums_knot([(1,), (2,), (3,)], 2, 10)
        self.let_by([1, 2, 3], 1, one, sums_knot([(10, 11)], 2, 12), pairs_knot([(12, 13)], 1))

    def test_the_last_has_outs(self):
        self.wrong(0, [1, 2], 1, KNOT)
        self.wrong(1, [1, 2], 1, KNOT, (((3, 4),), (), ((-4,),), (3,)))
        self.wrong(0, [1], 0, (((1,),), (), ((-1,),), (1,)))

    def test_not_used(self):
        self.wrong(0, [1, 2, 3], 1, pairs_knot([(1,), (2,)], 1))
        self.wrong(1, [1, 2, 5], 1, KNOT, LAST)
        self.wrong(1, [1, 2, 5], 1, KNOT, bare((5,)))
        self.wrong(2, [1, 2, 5, 6], 1, KNOT, sums_knot([(5,), (6,)], 2, 7), bare((3, 4)))
        self.wrong(2, [1, 2, 5, 6], 1, KNOT, sums_knot([(5,), (6,)], 2, 7), bare((7, 8)))

    def test_outs_that_are_a_mark(self):
        same = (((1,),), (), (), (1,))
        self.let_by([1], 0, same, same, same, pairs_knot([(1,)], 0))
        self.let_by([2, 1], 0, same, pairs_knot([(2,), (1,)], 0))
        self.wrong(2, [1], 0, same, same, bare((1,), (1,)))
        self.wrong(0, [1], 0, bare((1,)), same)

    def test_the_first_wrong_one_is_told(self):
        spoilt = (KNOT[0], KNOT[1], KNOT[2][1:], KNOT[3])
        self.assertEqual(first_wrong([1, 2], 1, [spoilt, bare((3, 5))]), (0, "down", (0, 0)))
        self.wrong(1, [1, 2], 1, KNOT, bare((3, 5)))


class TestCounts(unittest.TestCase):

    def told(self, marks, most, knots, told):
        self.assertEqual(first_wrong(marks, most, knots), told)
        self.assertEqual(wrong_told(marks, most, knots), told)

    def told_of(self, knot, told):
        """What is told of a knot of the marks 1 and 2, by MOST 1, and a rightly built last one."""
        self.told([1, 2], 1, [knot, pairs_knot([knot[3]], 1)], told)

    def test_holds(self):
        rows, names, clauses, outs = KNOT
        self.told_of((rows, names, clauses + ((1, 2),), outs), (0, "holds", (0, 0)))
        self.told_of((rows, names, clauses + ((),), outs), (0, "holds", (0, 0)))
        self.told_of((rows, names, clauses + ((-3,),), outs), (0, "holds", (0, 1)))
        self.told_of((rows, names, clauses + ((-1,),), outs), (0, "holds", (1, 0)))
        self.told_of((rows, names, clauses + ((-1, -2),), outs), (0, "holds", (1, 1)))
        self.told_of((rows, names, clauses + ((-4, -3),), outs), (0, "holds", (1, 1)))

    def test_holds_by_the_meanings(self):
        rows, names, clauses, outs = KNOT
        high, low = names
        self.told_of((rows, ((3, ((1,),)), low), clauses, outs), (0, "holds", (0, 1)))
        self.told_of((rows, ((3, ((),)), low), clauses, outs), (0, "holds", (0, 0)))
        self.told_of((rows, ((3, ((1,), (2,), (-1, -2))), low), clauses, outs), (0, "holds", (0, 0)))
        self.told_of((rows, (high, (4, ())), clauses, outs), (0, "holds", (1, 1)))
        self.told_of((rows, (high, (4, ((3,),))), clauses, outs), (0, "holds", (0, 1)))
        self.told_of((rows, (high, (4, ((3, 1),))), clauses, outs), (0, "holds", (1, 0)))
        more = names + ((9, ((-1,),)),)
        self.told_of((rows, more, clauses + ((9,),), outs), (0, "holds", (1, 0)))
        self.told_of((rows, more, clauses + ((1, 9),), outs), None)
        self.told_of((rows, names + ((9, ((-1, 2), (1, -2))),), clauses + ((-9, 1, 2), (9, -3, 4)), outs), None)

    def test_holds_by_the_outs(self):
        rows, names, clauses, _ = KNOT
        for outs in ((3, -4), (-3, 4), (-4, 3), (-1, 4)):
            self.told_of((rows, names, clauses, outs), (0, "holds", (0, 0)))
        self.told_of((rows, names, clauses, (1, 4)), (0, "down", (0, 0)))
        self.told_of((rows, names, clauses, (3, 2)), (0, "holds", (0, 1)))

    def test_holds_of_the_last(self):
        self.told([1, 2], 1, [KNOT, (((3, 4),), (), ((-3,), (-4,)), ())], (1, "holds", (1,)))
        self.told([1, 2], 1, [KNOT, (((3, 4),), (), ((-3, 4), (-4,)), ())], (1, "holds", (1,)))
        self.told([1, 2], 1, [(((1,), (2,)), (), ((-1,), (-2,)), ())], (0, "holds", (0, 1)))
        self.told([1, 2], 1, [(((1,), (2,)), (), ((-1,), (-1, -2)), ())], (0, "holds", (1, 0)))
        self.told([1, 2], 1, [(((1,), (2,)), (), ((),), ())], (0, "holds", (0, 0)))
        self.told([1, 2], 2, [(((1,), (2,)), (), ((-1, -2),), ())], (0, "holds", (1, 1)))
        self.told([1, 2], 5, [(((1,), (2,)), (), ((-1, -2),), ())], (0, "holds", (1, 1)))
        self.told([1, 2], 5, [bare((1,), (2,))], None)

    def test_up(self):
        # By 5 off, 6 and 7 come on, so 1 comes off; but by 1 on, only that one of 6 and 7 is off.
        knot = (((1,),), ((5, ((1,),)), (6, ((-1,),)), (7, ((-1,),))), ((5, 6), (5, 7), (-6, -7, -1)), (5,))
        self.told([1], 1, [knot, pairs_knot([(5,)], 1)], (0, "up", (1,)))
        self.told([1], 1, [knot[:2] + (knot[2] + ((-1, 5),), (5,)), pairs_knot([(5,)], 1)], None)

    def test_up_of_a_second_out(self):
        rows, names, clauses, outs = KNOT
        more = names + ((6, ((-1,), (-2,))), (7, ((-1,), (-2,))))
        longer = clauses[:2] + ((4, 6), (4, 7), (-6, -7, -1, -2))
        self.told_of((rows, more, longer, outs), (0, "up", (1, 1)))
        self.told_of((rows, more, clauses, outs), None)

    def test_down(self):
        rows, names, clauses, outs = KNOT
        self.told_of((rows, names, clauses[1:], outs), (0, "down", (0, 0)))
        self.told_of((rows, names, clauses[:1] + clauses[2:], outs), (0, "down", (0, 0)))
        self.told_of((rows, names, clauses[:2], outs), (0, "down", (0, 1)))
        # By both on, 4 comes at once; by one on and 4 off, nothing comes of the other one.
        more = names + ((7, ((1,),)), (8, ((2,),)))
        self.told_of((rows, more, clauses[:2] + ((-1, 7), (-2, 8), (-7, -8, 4)), outs), None)
        longer = ((-1, -2, 7), (-1, -2, 8), (-7, -8, 4))
        self.told_of((rows, more, clauses[:2] + longer, outs), (0, "down", (0, 1)))
        self.assertEqual(wrong_words_at((rows, more, clauses[:2] + longer, outs), 1, False, (1, 1)), [])

    def test_down_of_the_last(self):
        self.told([1, 2], 1, [KNOT, bare((3, 4))], (1, "down", (1,)))
        self.told([1, 2], 1, [bare((1,), (2,))], (0, "down", (0, 1)))
        self.told([1, 2], 0, [(((1,), (2,)), (), ((-1,),), ())], (0, "down", (0, 0)))
        self.told([1, 2, 3], 1, [(((1,), (2,), (3,)), (), ((-2, -3), (-1, -3)), ())], (0, "down", (0, 1, 0)))
        self.told([1, 2, 3], 1, [(((1,), (2,), (3,)), (), ((-2, -3), (-1, -2)), ())], (0, "down", (0, 0, 1)))
        self.told([1, 2], 1, [KNOT, (((3, 4),), (), ((-3, -4),), ())], None)
        # Above MOST it would be broken by steps, at MOST nothing is off.
        names = ((8, ()), (9, ()))
        clauses = ((-1, -2, 8), (-1, -2, 9), (-8, -9, -1))
        self.told([1, 2], 1, [(((1,), (2,)), names, clauses, ())], (0, "down", (0, 1)))

    def test_in_this_order(self):
        rows, names, clauses, outs = KNOT
        knot = (rows, ((3, ((1,),)), (4, ((1, 2),))), clauses[:1], outs)
        self.assertEqual(wrong_words_at(knot, 1, False, (0, 1)), ["holds", "up", "down"])
        self.told_of(knot, (0, "down", (0, 0)))
        knot = (rows, ((3, ((1,),)), (4, ((1, 2),))), clauses[:2], outs)
        self.assertEqual(wrong_words_at(knot, 1, False, (0, 1)), ["holds", "down"])
        self.told_of(knot, (0, "holds", (0, 1)))
        # Up and down are wrong at once at (0, 1); nothing is wrong ahead of it.
        more = names + ((6, ((-2,),)), (7, ((-2,),)))
        knot = (rows, more, clauses[:1] + ((3, 6), (3, 7), (-6, -7, -2)), outs)
        self.assertEqual(wrong_words_at(knot, 1, False, (0, 1)), ["up", "down"])
        self.told_of(knot, (0, "up", (0, 1)))
        self.told([1, 2], 1, [(((1,), (2,)), (), ((-2,),), ())], (0, "holds", (0, 1)))

    def test_outs_that_are_marks_themselves(self):
        for most in (0, 1, 3):
            self.told([1], most, [(((1,),), (), (), (1,)), pairs_knot([(1,)], most)], None)
        self.told([1], 0, [(((1,),), (), (), (-1,)), pairs_knot([(-1,)], 0)], (0, "holds", (0,)))
        self.told([1, 2], 0, [(((1,), (2,)), (), ((-2, 1),), (1,)), pairs_knot([(1,)], 0)], (0, "holds", (0, 1)))


class TestRefused(unittest.TestCase):

    def test_no_knot(self):
        for at in range(3):
            for thing in (None, 1, True, (), [], "knot", list(KNOT), KNOT[:3], (((1,),), (), [], ()), ((), (), (), ())):
                knots = [KNOT, LAST, KNOT]
                knots[at] = thing
                with self.assertRaises(NoKnot) as caught:
                    first_wrong([1, 2], 1, knots)
                self.assertEqual(caught.exception.number, at)

    def test_the_first_that_is_none(self):
        with self.assertRaises(NoKnot) as caught:
            first_wrong([1, 2], 1, [KNOT, None, (), LAST])
        self.assertEqual(caught.exception.number, 1)

    def test_ahead_of_all(self):
        many = pairs_knot([(name,) for name in range(1, 61)], 1)
        wrong = (KNOT[0], KNOT[1], (), KNOT[3])
        for first in (many, wrong, (((5,),), (), (), ())):
            with self.assertRaises(NoKnot) as caught:
                first_wrong(list(range(1, 61)), 1, [first, KNOT, 7])
            self.assertEqual(caught.exception.number, 2)

    def test_too_many(self):
        for many in range(1, 20):
            knots = [pairs_knot([(name,) for name in range(1, many + 1)], 1)]
            told = what_is_told(list(range(1, many + 1)), 1, knots)
            self.assertEqual(told, None if many <= 8 else 2 ** many)

    def test_256_at_the_most(self):
        for lens in ((7, 7, 3), (3, 3, 3, 3), (1,) * 8, (7, 7, 1, 1), (8, 8, 2), (4, 3, 3, 3), (1,) * 9, (5, 5, 6), (2, 2, 2, 2, 2)):
            # Each row of more than one mark is the outs of a knot of its own.
            names, knots, rows = itertools.count(1), [], []
            for length in lens:
                row = [(next(names),) for _ in range(length)]
                knots += [sums_knot(row, 60, 100 * (len(knots) + 1))] * (length > 1)
                rows.append(knots[-1][3] if length > 1 else row[0])
            marks = list(range(1, next(names)))
            many = math.prod(length + 1 for length in lens)
            self.assertEqual(what_is_told(marks, 59, knots + [bare(*rows)]), None if many <= 256 else many)

    def test_behind_built(self):
        rows = [(name,) for name in range(1, 61)]
        marks = list(range(1, 61))
        self.assertEqual(first_wrong(marks[:59] + [61], 1, [pairs_knot(rows, 1)]), (0, "built"))
        self.assertEqual(first_wrong(marks + [61], 1, [pairs_knot(rows, 1)]), (0, "built"))
        self.assertEqual(first_wrong(marks, 1, [pairs_knot(rows, 1)[:3] + ((1,),)]), (0, "built"))
        self.assertEqual(what_is_told(marks, 1, [pairs_knot(rows, 1)]), 2 ** 60)

    def test_behind_the_knots_ahead(self):
        rows = [(3, 4)] + [(name,) for name in range(11, 20)]
        marks = [1, 2] + list(range(11, 20))
        last = pairs_knot(rows, 1)
        self.assertEqual(what_is_told(marks, 1, [KNOT, last]), 3 * 2 ** 9)
        spoilt = (KNOT[0], KNOT[1], KNOT[2][:2], KNOT[3])
        self.assertEqual(what_is_told(marks, 1, [spoilt, last]), (0, "down", (0, 1)))
        # A knot behind one of too many counts isn't looked at.
        first = sums_knot([(name,) for name in range(11, 20)], 2, 30)
        self.assertEqual(what_is_told(marks, 1, [first, spoilt, pairs_knot([(3, 4), (30, 31)], 1)]), 2 ** 9)


class TestAllPlans(unittest.TestCase):

    def is_let_by(self, said):
        most = max(many_counts(knot) for knot in said.knots())
        if most <= 256:
            self.assertIsNone(first_wrong(said.marks(), said.most(), said.knots()), str(said))
        else:
            first = next(many_counts(knot) for knot in said.knots() if many_counts(knot) > 256)
            self.assertEqual(what_is_told(said.marks(), said.most(), said.knots()), first, str(said))

    def test_small_plans(self):
        for many in range(1, 5):
            for plan in small_plans(many):
                for most in range(many + 2):
                    if plan[0] == "pairs" or most == 1:
                        self.is_let_by(Said(list(range(2, many + 2)), most, plan))

    def test_by_words(self):
        for word in WORDS:
            for many in (1, 2, 3, 4, 5, 6, 8, 9, 13, 20, 33, 60):
                for most in (0, 1, 2, 3, 7, 60):
                    if word != "codes" or most == 1:
                        try:
                            said = Said([-name for name in range(1, many + 1)], most, plan_for(word, many))
                        except TooMany:
                            continue
                        self.is_let_by(said)

    def test_by_chance(self):
        chance = random.Random(17)
        for _ in range(100):
            plan = plan_by_chance(chance, chance.randrange(1, 41), chance.choice(("pairs", "codes")))
            many = str(plan).count("1")
            most = 1 if plan[0] == "codes" else chance.choice((0, 1, 2, 3, 6, 11, 40))
            try:
                said = Said(list(range(1, many + 1)), most, plan, fresh=chance.randrange(41, 90))
            except TooMany:
                continue
            self.is_let_by(said)

    def test_any_order_of_marks(self):
        said = Said([1, 2, 3, 4], 2, plan_for("tree", 4))
        for marks in itertools.permutations([1, 2, 3, 4]):
            self.assertIsNone(first_wrong(list(marks), 2, said.knots()))

    def test_another_most(self):
        for word in ("pairs", "row", "tree", "nets", "groups"):
            for most, other in itertools.permutations(range(5), 2):
                said = Said([1, 2, 3, 4, 5], most, plan_for(word, 5))
                self.assertIsNotNone(first_wrong(said.marks(), other, said.knots()))


class TestSpoilt(unittest.TestCase):

    def test_spoilt_ones(self):
        chance = random.Random(18)
        told = {}
        for _ in range(4000):
            many = chance.randrange(1, 6)
            plan = plan_by_chance(chance, many, chance.choice(("pairs", "pairs", "codes")))
            most = 1 if plan[0] == "codes" else chance.randrange(many + 1)
            marks = [name * chance.choice((1, -1)) for name in range(1, many + 1)]
            knots = Said(marks, most, plan, fresh=many + 1 + chance.randrange(2)).knots()
            for _ in range(chance.choice((1, 1, 1, 2, 3))):
                if all(is_knot(knot) for knot in knots):
                    knots = self.spoilt(chance, knots, many)
            if not all(is_knot(knot) for knot in knots):
                self.assertRaises(NoKnot, first_wrong, marks, most, knots)
                continue
            wrong = what_is_told(marks, most, knots)
            self.assertEqual(wrong, wrong_told(marks, most, knots), (marks, most, knots))
            if wrong is None:
                self.says_the_bound(marks, most, knots)
            word = wrong[1] if isinstance(wrong, tuple) else wrong
            told[word] = told.get(word, 0) + 1
        for word, many in ((None, 500), ("built", 500), ("holds", 200), ("up", 5), ("down", 200)):
            self.assertGreater(told.get(word, 0), many, told)

    def spoilt(self, chance, knots, many):
        """Knots with one thing in them that is another."""
        knots = [list(knot) for knot in knots]
        at = chance.randrange(len(knots))
        knot = knots[at]
        deed = chance.randrange(13)
        names = sorted({abs(mark) for row in knot[0] for mark in row} | {name for name, _ in knot[1]})
        sign = chance.choice((1, -1))
        mark = sign * chance.choice(names + [many + 1, many + 2, 40])
        if deed == 0 and knot[2]:
            place = chance.randrange(len(knot[2]))
            knot[2] = knot[2][:place] + knot[2][place + 1:]
        elif deed == 1:
            clause = tuple(chance.choice((1, -1)) * name for name in chance.sample(names, min(len(names), 1 + deed)))
            knot[2] = knot[2] + (clause,)
        elif deed in (2, 3, 4) and knot[2]:
            place = chance.randrange(len(knot[2]))
            clause = list(knot[2][place])
            if clause and deed == 2:
                clause[chance.randrange(len(clause))] *= -1
            elif clause and deed == 3:
                clause[chance.randrange(len(clause))] = mark
            elif abs(mark) not in [abs(one) for one in clause]:
                clause.append(mark)
            knot[2] = knot[2][:place] + (tuple(clause),) + knot[2][place + 1:]
        elif deed == 5 and knot[3]:
            outs = list(knot[3])
            outs[chance.randrange(len(outs))] = mark
            knot[3] = tuple(outs)
        elif deed == 6:
            knot[3] = chance.choice((knot[3][1:], knot[3] + (mark,), knot[3][::-1], ()))
        elif deed in (7, 8) and knot[1]:
            place = chance.randrange(len(knot[1]))
            name, meaning = knot[1][place]
            if deed == 7:
                named = (abs(mark), meaning)
            else:
                named = (name, chance.choice((meaning[1:], meaning + ((mark,),), meaning[::-1], ((),), ((mark, -names[0]),))))
            knot[1] = knot[1][:place] + (named,) + knot[1][place + 1:]
        elif deed == 9:
            rows = list(knot[0])
            chance.shuffle(rows)
            knot[0] = tuple(rows)
        elif deed == 10:
            place = chance.randrange(len(knot[0]))
            row = chance.choice(((mark,), knot[0][place][1:], knot[0][place] + (mark,), knot[0][place][::-1]))
            knot[0] = knot[0][:place] + (row,) + knot[0][place + 1:]
        elif deed == 11:
            chance.choice((knots.reverse, lambda: knots.pop(at), lambda: knots.insert(at, list(knot))))()
            knots = knots or [list(KNOT)]
        elif deed == 12:
            knot[1] = knot[1] + ((chance.choice((40, 41, 50)), chance.choice(((), ((mark,),), ((names[0],), (-names[0],))))),)
        return [tuple(knot) for knot in knots]

    def says_the_bound(self, marks, most, knots):
        """(a), (b), (c) of what is let by, at all settings."""
        names = [named for knot in knots for named in knot[1]]
        clauses = [clause for knot in knots for clause in knot[2]]
        for many in range(len(marks) + 1):
            for on in itertools.combinations(marks, many):
                now = all_on(clauses, on)
                if many > most:
                    self.assertIsNone(now)
                else:
                    self.assertTrue(all_hold(clauses, lengthened(marks, names, on)))
                    self.assertTrue(many < most or {-mark for mark in marks if mark not in on} <= now)

    def test_not_changed(self):
        knots, marks = [KNOT, LAST], [1, 2]
        self.assertIsNone(first_wrong(marks, 1, knots))
        self.assertEqual((knots, marks), ([KNOT, LAST], [1, 2]))


class TestByOthers(unittest.TestCase):

    def test_both_ways(self):
        # Names that are said both ways, with clauses nobody here makes.
        clauses = KNOT[2] + ((1, 2, -3), (1, -4), (2, -4), (-4, 3))
        self.assertIsNone(first_wrong([1, 2], 1, [(KNOT[0], KNOT[1], clauses, KNOT[3]), LAST]))

    def test_one_knot_with_names(self):
        # A ladder: 4 says that 1 is on, 5 that 1 or 2 is.
        names = ((4, ((1,),)), (5, ((4,), (2,))))
        clauses = ((-1, 4), (-2, 5), (-4, 5), (-2, -4), (-3, -5))
        knot = (((1,), (2,), (3,)), names, clauses, ())
        self.assertIsNone(first_wrong([1, 2, 3], 1, [knot]))
        for at, counts in enumerate(((0, 0, 1), (0, 0, 1), (0, 0, 1), (0, 1, 0), (0, 0, 1))):
            spoilt = (knot[0], names, clauses[:at] + clauses[at + 1:], ())
            self.assertEqual(first_wrong([1, 2, 3], 1, [spoilt]), (0, "down", counts))

    def test_by_commander(self):
        # Two groups, each with a commander that says that one of it is on.
        groups = [(((1,), (2,)), ((10, ((1,), (2,))), (12, ((1, 2),))), ((-1, 10), (-2, 10), (-1, -2, 12)), (10, 12)),
                  (((3,), (4,)), ((11, ((3,), (4,))), (13, ((3, 4),))), ((-3, 11), (-4, 11), (-3, -4, 13)), (11, 13))]
        rows = ((10, 12), (11, 13))
        self.assertIsNone(first_wrong([1, 2, 3, 4], 1, groups + [(rows, (), ((-12,), (-13,), (-10, -11)), ())]))
        for clauses, counts in ((((-12,), (-10, -11)), (0, 1)), (((-13,), (-10, -11)), (1, 0)), (((-12,), (-13,)), (0, 1))):
            self.assertEqual(first_wrong([1, 2, 3, 4], 1, groups + [(rows, (), clauses, ())]), (2, "down", counts))


if __name__ == "__main__":
    unittest.main()
