"""The keeper [25, 26, 27], and what [3] promises of it at every moment."""

import itertools
import math
import random
import unittest

from mostclauses.counts import choices, how_many
from mostclauses.errors import NoDeed, NoFresh, NoGrow, NoMarks, NoPlan, NotWider, TooFar, TooMany
from mostclauses.keeper import Keeper
from mostclauses.knots import sums_knot
from mostclauses.said import Said
from mostclauses.shows import is_shown
from mostclauses.words import part_for
from tellings import all_hold, meaning_holds, part_by_chance

GREATEST = 10 ** 9


def marks_for(many, start=1):
    """Some marks, by turns of either sign."""
    return [name if name % 2 else -name for name in range(start, start + many)]


def has_net(part):
    return part != 1 and (part[0] == "net" or any(has_net(one) for one in part[1:]))


def sums_by_chance(chance, many):
    """Any part without a net, no 1."""
    while True:
        part = part_by_chance(chance, many, chance.choice((2, 3, 5)))
        if part != 1 and not has_net(part):
            return part


class Told:
    """The keeper told over again: knots are lists [inner ones, size, outs], an inner one a mark or a knot."""

    def __init__(self, marks, cap, part, fresh):
        self.fresh = fresh
        self.names, self.clauses, self.deeds = [], [], []
        self.ever = [abs(mark) for mark in marks]
        self.marks, self.cap, self.most = list(marks), cap, None
        self.knots = []
        self.row = self.knot_of(part, list(marks), self.knots)
        self.grow()

    def knot_of(self, part, left, made):
        if part == 1:
            return left.pop(0)
        inner = [self.knot_of(one, left, made) for one in part[1:]]
        made.append([inner, sum(one[1] if isinstance(one, list) else 1 for one in inner), []])
        return made[-1]

    def lacks(self, knot, cap):
        """Of each total that a knot lacks the choices of its counts, as how many there are."""
        lens = [min(cap, one[1]) if isinstance(one, list) else 1 for one in knot[0]]
        return [how_many(lens, total) for total in range(len(knot[2]) + 1, min(cap, knot[1]) + 1)]

    def would_be(self, knots, cap):
        return len(self.clauses) + sum(sum(self.lacks(knot, cap)) for knot in knots)

    def grow(self):
        added = []
        for inner, size, outs in self.knots:
            rows = [one[2][:self.cap] if isinstance(one, list) else [one] for one in inner]
            for total in range(len(outs) + 1, min(self.cap, size) + 1):
                meaning = []
                for counts in choices([len(row) for row in rows], total):
                    meaning.append(tuple(row[count - 1] for row, count in zip(rows, counts) if count))
                    added.append(tuple(-mark for mark in meaning[-1]) + (self.fresh,))
                self.names.append((self.fresh, tuple(meaning)))
                outs.append(self.fresh)
                self.fresh += 1
        self.clauses += added
        return added

    def remember(self):
        self.deeds.append((self.marks, self.cap, self.most, self.knots, self.row))

    def refusal(self, deed, *handed):
        """What a deed is refused with: a class and its fields, None where it isn't."""
        if deed == "back":
            return None if self.deeds else (NoDeed, {})
        if deed == "bound":
            most, = handed
            return self.far(most, len(self.marks))
        if deed == "wider":
            cap, = handed
            if cap <= self.cap:
                return (NotWider, {"cap": self.cap})
            return self.above(self.would_be(self.knots, cap))
        marks, part = handed
        names = [abs(mark) for mark in marks]
        taken = [abs(mark) for mark in self.marks] + [name for name, _ in self.names]
        if not marks or len(set(names)) < len(names) or set(names) & set(taken) or max(names) > GREATEST:
            return (NoMarks, {})
        if len(self.marks) + len(marks) > 60:
            return (NoMarks, {})
        if part == "no part" or str(part).count("1") != len(marks):
            return (NoPlan, {})
        if has_net(part):
            return (NoGrow, {})
        knots = []
        top = self.knot_of(part, list(marks), knots)
        knots.append([[self.row, top], len(self.marks) + len(marks), []])
        return self.far(self.most, len(self.marks) + len(marks)) or self.above(self.would_be(knots, self.cap))

    def far(self, most, many):
        return (TooFar, {"cap": self.cap}) if most is not None and most < many and most >= self.cap else None

    def above(self, many):
        return (TooMany, {"many": many}) if many > 3003 else None

    def do(self, deed, *handed):
        """Do a deed that isn't refused; told is what the keeper should."""
        if deed == "back":
            self.marks, self.cap, self.most, self.knots, self.row = self.deeds.pop()
            return None
        self.remember()
        if deed == "bound":
            self.most, = handed
            return self.puts()
        if deed == "wider":
            self.cap, = handed
            return self.grow()
        marks, part = handed
        knots = list(self.knots)
        top = self.knot_of(part, list(marks), knots)
        knots.append([[self.row, top], len(self.marks) + len(marks), []])
        self.row, self.knots, self.marks = knots[-1], knots, self.marks + list(marks)
        self.ever += [abs(mark) for mark in marks]
        self.fresh = max([self.fresh] + [abs(mark) + 1 for mark in marks])
        return self.grow()

    def puts(self):
        if self.most is None or self.most >= len(self.marks):
            return []
        return [-self.row[2][self.most]]

    def everything(self):
        return (self.marks, self.cap, self.most, self.puts(), self.clauses, self.names)


def everything(keeper):
    return (keeper.marks(), keeper.reach(), keeper.most(), keeper.puts(), keeper.clauses(), keeper.names())


class Telling(unittest.TestCase):

    def keeps_promise(self, chance, keeper, ever, many=None):
        """(a), (b), (c) of the present bound, at all settings of few marks, at some of more."""
        marks, most = keeper.marks(), keeper.most()
        if many is None and len(marks) <= 4:
            for states in itertools.product((1, -1, 0), repeat=len(marks)):
                on = [mark for mark, state in zip(marks, states) if state == 1]
                off = [mark for mark, state in zip(marks, states) if state == -1]
                self.follows_as_told(keeper, on, off)
                if 0 not in states:
                    self.is_kept_as_told(keeper, on, ever)
            return
        for _ in range(many or 6):
            bound = chance.randrange(len(marks)) if most is None else most
            size = min(len(marks), max(0, bound + chance.choice((-1, 0, 0, 1, 2))))
            on = chance.sample(marks, size)
            left = [mark for mark in marks if mark not in on]
            self.follows_as_told(keeper, on, chance.sample(left, chance.randrange(len(left) + 1)))
            self.is_kept_as_told(keeper, on, ever)

    def follows_as_told(self, keeper, on, off):
        marks, most = keeper.marks(), keeper.most()
        puts = on + [-mark for mark in off]
        told = keeper.follows(puts)
        if most is not None and len(on) > most:
            self.assertIsNone(told)
            return
        now = [-mark for mark in marks if len(on) == most and mark not in on and mark not in off]
        self.assertEqual([mark for mark, _ in told], now)
        for mark, rows in told:
            self.assertTrue(is_shown(keeper.clauses(), puts + keeper.puts(), rows, mark))

    def is_kept_as_told(self, keeper, on, ever):
        marks, most, clauses = keeper.marks(), keeper.most(), keeper.clauses()
        told, rows = keeper.kept(on), keeper.broken(on)
        if most is not None and len(on) > most:
            self.assertIsNone(told)
            self.assertTrue(is_shown(clauses, on + keeper.puts(), rows, None))
            return
        self.assertIsNone(rows)
        state = {mark if mark in on else -mark for mark in marks}
        state |= {-name for name in ever if name not in state and -name not in state}
        for (name, meaning), mark in zip(keeper.names(), told, strict=True):
            self.assertEqual(mark, name if meaning_holds(meaning, state) else -name)
            state.add(mark)
        self.assertTrue(all_hold(clauses, state))
        self.assertLessEqual(set(keeper.puts()), state)

    def is_refused(self, refusal, fields, ask, *handed):
        with self.assertRaises(refusal) as caught:
            ask(*handed)
        self.assertIs(type(caught.exception), refusal)
        for field, worth in fields.items():
            self.assertEqual(getattr(caught.exception, field), worth)


class TestMade(Telling):

    def test_small(self):
        keeper = Keeper([1, 2, 3], 2, ("sums", ("sums", 1, 1), 1))
        self.assertEqual(keeper.marks(), [1, 2, 3])
        self.assertEqual(keeper.reach(), 2)
        self.assertIsNone(keeper.most())
        self.assertEqual(keeper.puts(), [])
        self.assertEqual(keeper.clauses(), [(-2, 4), (-1, 4), (-1, -2, 5), (-3, 6), (-4, 6), (-4, -3, 7), (-5, 7)])
        self.assertEqual(keeper.names(), [(4, ((2,), (1,))), (5, ((1, 2),)), (6, ((3,), (4,))), (7, ((4, 3), (5,)))])

    def test_knots_of_the_part(self):
        chance = random.Random(25)
        for _ in range(200):
            many, cap = chance.randrange(1, 13), chance.choice((1, 2, 3, 60))
            part = sums_by_chance(chance, many)
            marks = chance.sample(marks_for(20), many)
            fresh = chance.choice((None, 25, 100))
            keeper = Keeper(marks, cap, part, fresh=fresh)
            # Those of a plan of just this part, whose cap is the same, without its last knot.
            knots = Said(marks, cap - 1, ("pairs", part), fresh=fresh).knots()[:-1]
            self.assertEqual(keeper.clauses(), [clause for knot in knots for clause in knot[2]])
            self.assertEqual(keeper.names(), [named for knot in knots for named in knot[1]])
            self.assertEqual(keeper.reach(), cap)

    def test_refused(self):
        flat = ("sums", 1, 1, 1)
        for marks in ([], [1, 1], [1, -1], [0, 1], [GREATEST + 1], list(range(1, 62))):
            self.is_refused(NoMarks, {}, Keeper, marks, 2, ("net", 1, 1))
        for part in (
            1, None, True, "flat", (), ("sums",), ("sums", 1, 1), ("sums", 1, 1, 1, 1), ("pairs", 1, 1, 1), [flat],
            ("net", 1, 1), ("net", 1, 1, 1), ["sums", 1, 1, 1], ("sums", ("net", 1, 1)), ("codes", 1, 1, 1), 10 ** 60 - 1,
        ):
            with self.assertRaises(NoPlan):
                Keeper([1, 2, 3], 2, part, fresh=1)
        self.is_refused(NoPlan, {}, Keeper, [1], 2, 1)
        for part in (("net", ("sums", 1, 1), 1), ("sums", 1, ("net", 1, 1)), ("sums", ("sums", ("net", 1, 1), 1)),
                     ("sums", ("sums", 1, 1), ("sums", ("net", 1, ("sums", 1)))[1][2])):
            with self.assertRaises(NoGrow if has_net(part) else NoFresh):
                Keeper([1, 2, 3], 2, part, fresh=1)
        for fresh in (3, 0, -1):
            with self.assertRaises(NoFresh) as caught:
                Keeper([1, -3, 2], 60, flat, fresh=fresh)
            self.assertEqual(caught.exception.lowest, 4)
        with self.assertRaises(NoFresh):
            Keeper(list(range(1, 61)), 60, part_for("flat", 60), fresh=60)

    def test_too_many(self):
        for many, cap in ((60, 60), (60, 3), (15, 15), (12, 12), (11, 11)):
            clauses = sum(math.comb(many, total) for total in range(1, cap + 1))
            if clauses > 3003:
                self.is_refused(TooMany, {"many": clauses}, Keeper, marks_for(many), cap, part_for("flat", many))
            else:
                self.assertEqual(len(Keeper(marks_for(many), cap, part_for("flat", many)).clauses()), clauses)

    def test_copied_and_new(self):
        marks = [1, 2, 3]
        keeper = Keeper(marks, 2, ("sums", 1, 1, 1))
        marks.append(9)
        self.assertEqual(keeper.marks(), [1, 2, 3])
        more = [20, 21]
        for deed in (lambda: keeper.bound(1), lambda: keeper.more(more, ("sums", 1, 1)), lambda: keeper.wider(4)):
            before = everything(keeper)
            told = deed()
            kept = list(told)
            told.clear()
            self.assertTrue(keeper.clauses()[len(before[4]):] == kept or keeper.puts() == kept)
        more.clear()
        self.assertEqual(keeper.marks(), [1, 2, 3, 20, 21])
        asks = (keeper.marks, keeper.puts, keeper.clauses, keeper.names, lambda: keeper.kept([1]), lambda: keeper.follows([1]),
                lambda: keeper.broken([1, 21]))
        for ask in asks:
            told = ask()
            kept = list(told)
            self.assertEqual(ask(), kept)
            told.clear()
            self.assertEqual(ask(), kept)
        on, puts = [3, 1], [2, -1]
        keeper.kept(on), keeper.broken(on), keeper.follows(puts)
        self.assertEqual((on, puts), ([3, 1], [2, -1]))


class TestBound(Telling):

    def test_puts(self):
        keeper = Keeper([1, 2, 3], 2, ("sums", 1, 1, 1))
        self.assertEqual(keeper.bound(0), [-4])
        self.assertEqual(keeper.bound(1), [-5])
        self.assertEqual(keeper.puts(), [-5])
        self.assertEqual(keeper.most(), 1)
        self.assertEqual(keeper.bound(None), [])
        self.assertIsNone(keeper.most())
        for most in (3, 4, 60):
            self.assertEqual(keeper.bound(most), [])
            self.assertEqual(keeper.most(), most)
        self.is_refused(TooFar, {"cap": 2}, keeper.bound, 2)
        self.assertEqual(keeper.most(), 60)

    def test_too_far(self):
        keeper = Keeper(marks_for(5), 3, ("sums", 1, 1, 1, 1, 1))
        for most in (3, 4):
            self.is_refused(TooFar, {"cap": 3}, keeper.bound, most)
        self.assertEqual(keeper.bound(5), [])
        self.assertEqual(keeper.bound(2), [-8])
        # As many as there are aren't bounded, though they are a cap and more.
        keeper = Keeper(marks_for(3), 3, ("sums", 1, 1, 1))
        self.assertEqual(keeper.bound(3), [])
        self.assertEqual(keeper.bound(2), [-6])

    def test_without_a_bound(self):
        keeper = Keeper([1, -2], 1, ("sums", 1, 1))
        for on in ([], [1], [-2], [1, -2]):
            self.assertEqual(keeper.kept(on), [3] if on else [-3])
            self.assertIsNone(keeper.broken(on))
            self.assertEqual(keeper.follows(on), [])


class TestWider(Telling):

    def test_small(self):
        keeper = Keeper([1, 2, 3], 1, ("sums", ("sums", 1, 1), 1))
        self.assertEqual(keeper.clauses(), [(-2, 4), (-1, 4), (-3, 5), (-4, 5)])
        self.assertEqual(keeper.wider(2), [(-1, -2, 6), (-4, -3, 7), (-6, 7)])
        self.assertEqual(keeper.names()[2:], [(6, ((1, 2),)), (7, ((4, 3), (6,)))])
        self.assertEqual(keeper.wider(60), [(-6, -3, 8)])
        self.assertEqual(keeper.reach(), 60)
        self.assertEqual(keeper.wider(61), [])
        for cap in (61, 60, 1):
            self.is_refused(NotWider, {"cap": 61}, keeper.wider, cap)

    def test_nothing_told_twice(self):
        keeper = Keeper([1, 2, 3], 1, ("sums", ("sums", 1, 1), 1))
        told = keeper.wider(2)
        clauses, names = keeper.clauses(), keeper.names()
        self.assertIsNone(keeper.back())
        self.assertEqual(keeper.reach(), 1)
        self.assertEqual((keeper.clauses(), keeper.names()), (clauses, names))
        self.assertEqual(clauses[-3:], told)
        self.is_refused(TooFar, {"cap": 1}, keeper.bound, 1)
        self.assertEqual(keeper.wider(2), [])
        self.assertEqual(keeper.bound(1), [-7])
        self.assertEqual(keeper.wider(3), [(-6, -3, 8)])

    def test_rows_as_long_as_the_cap_wants(self):
        keeper = Keeper([1, 2, 3], 1, ("sums", 1, 1, 1))
        keeper.wider(3)
        keeper.back()
        # The row has three outs, but the cap wants one.
        self.assertEqual(keeper.more([9], 1), [(-9, 10), (-4, 10)])
        self.assertEqual(keeper.wider(2), [(-4, -9, 11), (-5, 11)])
        self.assertEqual(keeper.wider(3), [(-5, -9, 12), (-6, 12)])
        self.assertEqual(keeper.wider(4), [(-6, -9, 13)])

    def test_too_many(self):
        keeper = Keeper(marks_for(60), 1, part_for("flat", 60))
        self.is_refused(TooMany, {"many": 2 ** 60 - 1}, keeper.wider, 60)
        self.is_refused(TooMany, {"many": 60 + 1770 + 34220}, keeper.wider, 3)
        self.assertEqual(keeper.reach(), 1)
        self.assertEqual(len(keeper.wider(2)), 1770)
        keeper.back()
        self.is_refused(TooMany, {"many": 60 + 1770 + 34220}, keeper.wider, 3)
        self.assertEqual(keeper.wider(2), [])


class TestMore(Telling):

    def test_small(self):
        keeper = Keeper([1, 2], 2, ("sums", 1, 1))
        self.assertEqual(keeper.names(), [(3, ((2,), (1,))), (4, ((1, 2),))])
        told = keeper.more([-9, 7], ("sums", 1, 1))
        self.assertEqual(told, [(-7, 10), (9, 10), (9, -7, 11), (-10, 12), (-3, 12), (-11, 13), (-3, -10, 13), (-4, 13)])
        self.assertEqual(keeper.marks(), [1, 2, -9, 7])
        self.assertEqual(keeper.names()[-1], (13, ((11,), (3, 10), (4,))))
        self.assertEqual(keeper.bound(1), [-13])

    def test_one_mark(self):
        keeper = Keeper([1, 2], 2, ("sums", 1, 1))
        self.assertEqual(keeper.more([-5], 1), [(5, 6), (-3, 6), (-3, 5, 7), (-4, 7)])
        self.assertEqual(keeper.more([20], ("sums", 1)), [(-20, 21), (-21, 22), (-6, 22), (-6, -21, 23), (-7, 23)])

    def test_new_names_go_on(self):
        keeper = Keeper([1, 2], 1, ("sums", 1, 1), fresh=50)
        self.assertEqual([name for name, _ in keeper.names()], [50])
        keeper.more([40], 1)
        self.assertEqual([name for name, _ in keeper.names()], [50, 51])
        keeper.more([70], 1)
        self.assertEqual([name for name, _ in keeper.names()], [50, 51, 71])
        keeper.back()
        keeper.more([60], 1)
        self.assertEqual([name for name, _ in keeper.names()], [50, 51, 71, 72])
        keeper.wider(2)
        self.assertEqual([name for name, _ in keeper.names()], [50, 51, 71, 72, 73, 74, 75])

    def test_a_refused_one_makes_no_names(self):
        keeper = Keeper([1, 2], 1, ("sums", 1, 1))
        self.is_refused(NoPlan, {}, keeper.more, [500], ("sums", 1, 1))
        keeper.more([10], 1)
        self.assertEqual([name for name, _ in keeper.names()], [3, 11])

    def test_marks_that_are_none(self):
        keeper = Keeper([1, -2], 2, ("sums", 1, 1), fresh=10)
        before = everything(keeper)
        for marks in ([], [0], [5, 5], [5, -5], [GREATEST + 1], [1], [-1], [2], [5, 2], [10], [-11], [5, 11], list(range(20, 79))):
            for part in (None, ("net", 1, 1)):
                self.is_refused(NoMarks, {}, keeper.more, marks, part)
        self.assertEqual(everything(keeper), before)
        self.assertRaises(NoDeed, keeper.back)
        # 12 was never made.
        keeper.more([12], 1)
        self.assertEqual([name for name, _ in keeper.names()], [10, 11, 13, 14])
        self.is_refused(NoMarks, {}, keeper.more, [14], 1)
        keeper.back()
        self.is_refused(NoMarks, {}, keeper.more, [-14], 1)
        keeper.more([-12], 1)

    def test_sixty_at_the_most(self):
        keeper = Keeper(marks_for(30), 1, part_for("flat", 30))
        self.is_refused(NoMarks, {}, keeper.more, marks_for(31, 100), part_for("flat", 31))
        keeper.more(marks_for(30, 100), part_for("flat", 30))
        self.assertEqual(len(keeper.marks()), 60)
        self.is_refused(NoMarks, {}, keeper.more, [500], 1)

    def test_order_of_refusals(self):
        keeper = Keeper(marks_for(10), 4, part_for("flat", 10))
        keeper.wider(5)
        keeper.bound(10)
        self.is_refused(NoMarks, {}, keeper.more, [1], ("net", 1, 1))
        self.is_refused(NoPlan, {}, keeper.more, [50], ("net", 1, 1))
        self.is_refused(NoPlan, {}, keeper.more, [50, 51], 1)
        self.is_refused(NoPlan, {}, keeper.more, [50, 51], ("pairs", 1, 1))
        self.is_refused(NoGrow, {}, keeper.more, [50, 51], ("net", 1, 1))
        self.is_refused(NoGrow, {}, keeper.more, [50, 51, 52], ("sums", 1, ("net", 1, 1)))
        self.is_refused(TooFar, {"cap": 5}, keeper.more, marks_for(40, 50), part_for("flat", 40))
        keeper.bound(4)
        many = len(keeper.clauses()) + sum(math.comb(40, total) for total in range(1, 6))
        many += sum(min(total, 5) + 1 for total in range(1, 6))
        self.is_refused(TooMany, {"many": many}, keeper.more, marks_for(40, 50), part_for("flat", 40))
        self.assertEqual(keeper.marks(), marks_for(10))

    def test_too_far(self):
        keeper = Keeper([1, 2, 3], 2, ("sums", 1, 1, 1))
        keeper.bound(3)
        self.is_refused(TooFar, {"cap": 2}, keeper.more, [10], 1)
        keeper.bound(4)
        keeper.more([10], 1)
        self.is_refused(TooFar, {"cap": 2}, keeper.more, [30], 1)
        keeper.bound(None)
        keeper.more([30], 1)
        keeper.bound(1)
        keeper.more([40, 41], ("sums", 1, 1))
        self.assertEqual(keeper.most(), 1)

    def test_taken_back_marks_come_again(self):
        keeper = Keeper([1, 2], 2, ("sums", 1, 1))
        keeper.bound(1)
        keeper.more([-8], 1)
        keeper.back()
        self.assertEqual(keeper.marks(), [1, 2])
        # -8 was taken back: its name is off, so the mark is on, and with it what it brings on.
        self.assertEqual(keeper.kept([]), [-3, -4, 9, -10])
        self.assertEqual(keeper.kept([1]), [3, -4, 9, 10])
        self.assertIsNone(keeper.kept([1, 2]))
        told = keeper.more([8, 30], ("sums", 1, 1))
        self.assertEqual(keeper.marks(), [1, 2, 8, 30])
        self.assertEqual([name for name, _ in keeper.names()], [3, 4, 9, 10, 31, 32, 33, 34])
        self.assertEqual(len(told), 8)
        self.assertEqual(keeper.kept([8]), [-3, -4, -9, -10, 31, -32, 33, -34])
        self.assertEqual([mark for mark, _ in keeper.follows([8])], [-1, -2, -30])


class TestBack(Telling):

    def test_none_there(self):
        keeper = Keeper([1, 2], 1, ("sums", 1, 1))
        self.is_refused(NoDeed, {}, keeper.back)
        keeper.bound(0)
        self.assertRaises(TooFar, keeper.bound, 1)
        self.assertRaises(NotWider, keeper.wider, 1)
        self.assertIsNone(keeper.back())
        self.is_refused(NoDeed, {}, keeper.back)

    def test_deeds_in_turn(self):
        keeper = Keeper([1, 2, 3], 1, ("sums", 1, 1, 1))
        seen = []
        for deed, handed in (
            ("bound", (0,)), ("bound", (0,)), ("wider", (2,)), ("bound", (1,)), ("more", ([20], 1)), ("wider", (3,)),
            ("bound", (None,)), ("more", ([-30, 31], ("sums", 1, 1))), ("bound", (2,)), ("bound", (60,)),
        ):
            seen.append(everything(keeper)[:4])
            getattr(keeper, deed)(*handed)
        clauses, names = keeper.clauses(), keeper.names()
        while seen:
            self.assertIsNone(keeper.back())
            self.assertEqual(everything(keeper)[:4], seen.pop())
            self.assertEqual((keeper.clauses(), keeper.names()), (clauses, names))
        self.assertRaises(NoDeed, keeper.back)


class TestHistories(Telling):

    def setUp(self):
        self.seen = []

    def test_small_ones(self):
        for seed in range(120):
            self.history(random.Random(seed), random.Random(seed).randrange(1, 4), 14, (1, 1, 2), 5)
        for one in (NoDeed, TooFar, NotWider, NoMarks, NoPlan, NoGrow, "bound", "wider", "more", "back"):
            self.assertGreater(self.seen.count(one), 2, one)

    def test_greater_ones(self):
        for seed in range(40):
            self.history(random.Random(1000 + seed), random.Random(seed).randrange(3, 16), 16, (1, 2, 4, 9), 12)

    def test_great_ones(self):
        for seed in range(8):
            self.history(random.Random(2000 + seed), random.Random(seed).randrange(20, 40), 12, (5, 12, 20), 25)
        self.assertGreater(self.seen.count(TooMany), 1)

    def history(self, chance, many, deeds, sizes, greatest_cap):
        marks = chance.sample(marks_for(60), many)
        # Parts of wide sums have too many clauses for a great cap.
        cap = chance.randrange(1, 4)
        part = sums_by_chance(chance, many) if many < 10 else part_for(chance.choice(("tree", "row")), many)
        fresh = chance.choice((None, 61, 200))
        keeper = Keeper(marks, cap, part, fresh=fresh)
        told = Told(marks, cap, part, fresh or max(abs(mark) for mark in marks) + 1)
        self.assertEqual(everything(keeper), told.everything())
        for _ in range(deeds):
            deed = chance.choice(("bound", "bound", "bound", "wider", "more", "more", "back"))
            handed = self.handed_by_chance(chance, told, deed, sizes, greatest_cap)
            self.deed_as_told(keeper, told, deed, handed)
            self.assertEqual(everything(keeper), told.everything())
            self.keeps_promise(chance, keeper, told.ever)

    def deed_as_told(self, keeper, told, deed, handed):
        refusal = told.refusal(deed, *handed)
        self.seen.append(refusal[0] if refusal else deed)
        if refusal is not None:
            self.is_refused(*refusal, getattr(keeper, deed), *handed)
            return
        before = keeper.clauses()
        news = getattr(keeper, deed)(*handed)
        self.assertEqual(news, told.do(deed, *handed))
        if deed in ("wider", "more"):
            self.assertEqual(keeper.clauses(), before + news)
            self.assertEqual(len(set(keeper.clauses())), len(keeper.clauses()))

    def handed_by_chance(self, chance, told, deed, sizes, greatest_cap):
        if deed == "back":
            return ()
        if deed == "bound":
            return (chance.choice((None, 0, 1, told.cap - 1, told.cap, len(told.marks) - 1, len(told.marks), 60)),)
        if deed == "wider":
            return (chance.choice((1, told.cap, told.cap + 1, told.cap + 2, greatest_cap)),)
        many = chance.choice(sizes)
        there = [abs(mark) for mark in told.marks] + [name for name, _ in told.names]
        names = [name for name in told.ever + list(range(1, 400)) if name not in there]
        marks = [name * chance.choice((1, -1)) for name in chance.sample(sorted(set(names)), many)]
        part = 1 if marks[1:] == [] and chance.random() < 0.7 else sums_by_chance(chance, many)
        if chance.random() < 0.06:
            part = "no part"
        if chance.random() < 0.06:
            part = part_for("nets", many + chance.randrange(2))
        if chance.random() < 0.06:
            marks[-1] = chance.choice(there)
        return (marks, part)


class TestPresentBound(Telling):

    def test_as_the_plan_says_it(self):
        # With the put its clauses say what a plan of the same part says.
        for word in ("flat", "row", "tree", "groups"):
            for many in (2, 3, 5, 8):
                keeper = Keeper(marks_for(many), many, part_for(word, many))
                for most in range(many):
                    keeper.bound(most)
                    self.keeps_promise(random.Random(most), keeper, [], 20)

    def test_join_of_rows(self):
        keeper = Keeper([1, 2, 3], 2, ("sums", 1, 1, 1))
        told = keeper.more([10, 11], ("sums", 1, 1))
        knot = sums_knot([(4, 5), (12, 13)], 2, 14)
        self.assertEqual(told[-len(knot[2]):], list(knot[2]))
        self.assertEqual(keeper.names()[-2:], list(knot[1]))


if __name__ == "__main__":
    unittest.main()
