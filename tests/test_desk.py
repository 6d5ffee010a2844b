"""The desk [29, 30, 31], and what [3] promises of it."""

import itertools
import math
import random
import unittest

from mostclauses.between import Between
from mostclauses.desk import Desk
from mostclauses.errors import HasSome, IsPut, IsRule, NoBound, NoDeed, NoMarks, NoPlan, NoRule, NotOn, TooMany
from mostclauses.papers import is_paper
from mostclauses.shows import is_shown
from tellings import all_on, paper_holds

WAYS = ("pairs", "row", "tree", "nets", "groups")


def desk_of(rules, wishes):
    """A desk that was told just this."""
    desk = Desk()
    for word, marks, least, most, way in rules:
        desk.rule(word, list(marks), least, most, way=way)
    for mark in wishes:
        desk.wish(mark)
    return desk


def clauses_told(rules):
    """The clauses of all rules, the new names numbered on from 101."""
    clauses, fresh = [], 101
    for _, marks, least, most, way in rules:
        between = Between(list(marks), least, most, way=way, fresh=fresh)
        clauses += between.clauses()
        fresh = max([fresh - 1] + [name for name, _ in between.names()]) + 1
    return clauses


def names_of(rules, wishes):
    return sorted({abs(mark) for rule in rules for mark in rule[1]} | {abs(mark) for mark in wishes})


def settings_told(rules, wishes):
    """All settings that keep all, by a look at each."""
    found = []
    for sides in itertools.product((1, -1), repeat=len(names_of(rules, wishes))):
        setting = [name * side for name, side in zip(names_of(rules, wishes), sides)]
        kept = all(least <= len(set(marks) & set(setting)) <= most for _, marks, least, most, _ in rules)
        if kept and set(wishes) <= set(setting):
            found.append(setting)
    return found


def follows_told(rules, wishes):
    """What follows at once of the wishes, by counts of the rules alone; None where it is broken."""
    on = set(wishes)
    while True:
        before = len(on)
        for _, marks, least, most, _ in rules:
            many_on = len([mark for mark in marks if mark in on])
            many_off = len([mark for mark in marks if -mark in on])
            if many_on > most or many_off > len(marks) - least:
                return None
            left = [mark for mark in marks if mark not in on and -mark not in on]
            if many_on == most:
                on |= {-mark for mark in left}
            elif many_off == len(marks) - least:
                on |= set(left)
        if len(on) == before:
            return sorted(on - set(wishes), key=abs)


class Telling(unittest.TestCase):

    def is_refused(self, refusal, fields, ask, *handed, **named):
        with self.assertRaises(refusal) as caught:
            ask(*handed, **named)
        self.assertIs(type(caught.exception), refusal)
        for field, worth in fields.items():
            self.assertEqual(getattr(caught.exception, field), worth)

    def is_as_told(self, desk, rules, wishes):
        """All that a desk tells of these rules and wishes."""
        self.assertEqual(desk.rules(), list(rules))
        self.assertEqual(desk.wishes(), list(wishes))
        clauses = clauses_told(rules)
        self.assertEqual(desk.clauses(), clauses)
        self.assertEqual(desk.follows(), follows_told(rules, wishes))
        found = settings_told(rules, wishes)
        self.assertEqual(desk.tally(), len(found))
        if found:
            self.assertIn(desk.find(), found)
            self.is_refused(HasSome, {}, desk.none)
        else:
            self.assertIsNone(desk.find())
            paper = desk.none()
            self.assertTrue(paper_holds(clauses, list(wishes), paper))
            self.assertTrue(is_paper(clauses, list(wishes), paper))
        self.why_as_told(desk, clauses, list(wishes))

    def why_as_told(self, desk, clauses, wishes):
        now = all_on(clauses, wishes)
        if now is None:
            self.assertTrue(is_shown(clauses, wishes, desk.why(None), None))
            for mark in wishes + [1, -1, 101]:
                self.is_refused(NotOn, {"mark": mark}, desk.why, mark)
            return
        self.is_refused(NotOn, {"mark": None}, desk.why, None)
        for name in names_of(desk.rules(), wishes) + [99, 101, 104]:
            for mark in (name, -name):
                if mark in now:
                    self.assertTrue(is_shown(clauses, wishes, desk.why(mark), mark))
                else:
                    self.is_refused(NotOn, {"mark": mark}, desk.why, mark)


class TestSmall(Telling):

    def test_a_desk(self):
        desk = Desk()
        self.assertIsNone(desk.rule("cups", [1, 2, 3], 1, 1))
        self.assertIsNone(desk.rule("mugs", [-1, -2, 4], 2, 3, way="nets"))
        self.assertEqual(desk.rules(), [("cups", (1, 2, 3), 1, 1, "tree"), ("mugs", (-1, -2, 4), 2, 3, "nets")])
        self.assertIsNone(desk.wish(-4))
        self.assertEqual(desk.wishes(), [-4])
        self.assertEqual(desk.follows(), [-1, -2, 3])
        self.assertEqual(desk.find(), [-1, -2, 3, -4])
        self.assertEqual(desk.tally(), 1)
        self.assertEqual(desk.why(-4), [])
        self.is_as_told(desk, desk.rules(), desk.wishes())
        self.assertIsNone(desk.unwish(-4))
        self.assertEqual(desk.follows(), [])
        self.assertEqual(desk.tally(), 4)
        self.assertIsNone(desk.drop("cups"))
        self.assertEqual(desk.rules(), [("mugs", (-1, -2, 4), 2, 3, "nets")])
        self.assertIsNone(desk.back())
        self.assertEqual([rule[0] for rule in desk.rules()], ["cups", "mugs"])

    def test_without_names(self):
        for desk in (Desk(), desk_of([("a", (1,), 0, 1, "tree")], [5])):
            for rule in desk.rules():
                desk.drop(rule[0])
                desk.unwish(5)
            self.assertEqual(desk.rules(), [])
            self.assertEqual(desk.wishes(), [])
            self.assertEqual(desk.clauses(), [])
            self.assertEqual(desk.follows(), [])
            self.assertEqual(desk.find(), [])
            self.assertEqual(desk.tally(), 1)
            self.is_refused(HasSome, {}, desk.none)
            self.is_refused(NotOn, {"mark": None}, desk.why, None)
            self.is_refused(NotOn, {"mark": 5}, desk.why, 5)

    def test_wishes_alone(self):
        desk = desk_of([], [5, -3])
        self.assertEqual((desk.follows(), desk.find(), desk.tally()), ([], [-3, 5], 1))
        self.is_as_told(desk, [], [5, -3])

    def test_none(self):
        desk = desk_of([("a", (1, 2, 3), 1, 1, "tree"), ("b", (3, 2, 1), 2, 2, "row")], [])
        self.assertEqual(desk.tally(), 0)
        self.assertEqual(desk.follows(), [])
        self.assertIs(type(desk.none()), tuple)
        self.is_as_told(desk, desk.rules(), [])
        desk.wish(2)
        self.assertIsNone(desk.follows())
        self.is_as_told(desk, desk.rules(), [2])

    def test_names_from_101(self):
        desk = desk_of([("a", (1, 2), 0, 1, "tree"), ("b", (3, -4, 5), 1, 2, "tree")], [])
        desk.drop("a")
        self.assertEqual(desk.clauses(), Between([3, -4, 5], 1, 2, fresh=101).clauses())
        # Marks of new names aren't told by follows, but why tells of them.
        desk.wish(3)
        desk.wish(5)
        self.assertEqual(desk.follows(), [4])
        self.assertTrue(is_shown(desk.clauses(), [3, 5], desk.why(101), 101))

    def test_eight_names(self):
        desk = desk_of([("a", tuple(range(1, 9)), 0, 3, "tree")], [-8])
        self.assertEqual(desk.tally(), math.comb(7, 0) + math.comb(7, 1) + math.comb(7, 2) + math.comb(7, 3))
        self.is_as_told(desk, desk.rules(), [-8])


class TestRefused(Telling):

    def test_rule(self):
        desk = desk_of([("a", (1, 2, 3), 1, 1, "tree")], [4])
        before = (desk.rules(), desk.wishes())
        for refusal, fields, handed, way in (
            (IsRule, {"word": "a"}, ("a", [], 5, 1), "no way"), (IsRule, {"word": "a"}, ("a", [1, 2, 3], 1, 1), "tree"),
            (NoMarks, {}, ("b", [], 5, 1), "no way"), (NoMarks, {}, ("b", [1, -1], 5, 1), "no way"),
            (NoMarks, {}, ("b", [101], 0, 1), "tree"), (NoMarks, {}, ("b", [1, -101], 5, 1), "no way"),
            (NoMarks, {}, ("b", list(range(1, 62)), 0, 1), "tree"), (NoMarks, {}, ("b", [0], 0, 1), "tree"),
            (NoBound, {"low": 2, "high": 1}, ("b", [1, 2], 2, 1), "no way"),
            (NoBound, {"low": 3, "high": 3}, ("b", [1, 2], 3, 3), "tree"),
            (NoBound, {"low": 20, "high": 30}, ("b", list(range(1, 12)), 20, 30), "tree"),
            (NoPlan, {}, ("b", [1, 2], 1, 1), "flat"), (NoPlan, {}, ("b", [1, 2], 0, 1), "codes"),
            (NoPlan, {}, ("b", [1, 2], 0, 2), "codes"), (NoPlan, {}, ("b", list(range(1, 12)), 0, 2), "no way"),
            (TooMany, {"many": math.comb(60, 30)}, ("b", list(range(1, 61)), 0, 29), "pairs"),
            (TooMany, {"many": 60}, ("b", list(range(1, 61)), 0, 3), "tree"),
            (TooMany, {"many": 9}, ("b", [5, 6, 7, 8, 9], 0, 1), "tree"),
            (TooMany, {"many": 9}, ("b", [1, -9, 7, 4, 6, -5, 8], 0, 1), "tree"),
            (TooMany, {"many": 12}, ("b", list(range(1, 13)), 0, 1), "tree"),
        ):
            with self.subTest(handed=handed, way=way):
                self.is_refused(refusal, fields, desk.rule, *handed, way=way)
                self.assertEqual((desk.rules(), desk.wishes()), before)
        desk.rule("b", [5, 6, 7, 8, 1], 0, 1)
        self.is_as_told(desk, before[0] + [("b", (5, 6, 7, 8, 1), 0, 1, "tree")], [4])
        # What was refused is no deed.
        desk.back()
        self.assertEqual((desk.rules(), desk.wishes()), before)

    def test_rule_as_between(self):
        desk = Desk()
        desk.rule("a", [100, -99], 0, 60, way="pairs")
        desk.rule("abcdefgh", [100, -98], 1, 1, way="codes")
        desk.rule("b", [1], 0, 1, way="codes")
        self.assertEqual(desk.rules(), [
            ("a", (100, -99), 0, 60, "pairs"), ("abcdefgh", (100, -98), 1, 1, "codes"), ("b", (1,), 0, 1, "codes")])
        self.is_as_told(desk, desk.rules(), [])

    def test_drop(self):
        desk = desk_of([("a", (1, 2), 0, 1, "tree"), ("b", (2, 3), 0, 1, "tree"), ("c", (3, 1), 0, 1, "tree")], [])
        for word in ("d", "", "aa", "A"):
            self.is_refused(NoRule, {"word": word}, desk.drop, word)
        desk.drop("b")
        self.assertEqual([rule[0] for rule in desk.rules()], ["a", "c"])
        self.is_refused(NoRule, {"word": "b"}, desk.drop, "b")
        desk.rule("b", [1, 2], 1, 2)
        self.assertEqual([rule[0] for rule in desk.rules()], ["a", "c", "b"])
        desk.back()
        desk.back()
        self.assertEqual([rule[0] for rule in desk.rules()], ["a", "b", "c"])

    def test_wish(self):
        desk = desk_of([("a", (1, 2, 3, 4, 5, 6), 1, 4, "tree")], [-100, 2])
        for mark in (101, -101, 10 ** 12):
            self.is_refused(NoMarks, {}, desk.wish, mark)
        for mark in (100, -100, 2, -2):
            self.is_refused(IsPut, {"name": abs(mark)}, desk.wish, mark)
        desk.wish(50)
        self.is_refused(TooMany, {"many": 9}, desk.wish, 51)
        self.is_refused(TooMany, {"many": 9}, desk.wish, -51)
        self.is_refused(IsPut, {"name": 50}, desk.wish, -50)
        self.is_refused(NoMarks, {}, desk.wish, 101)
        desk.wish(-6)
        self.is_as_told(desk, desk.rules(), [-100, 2, 50, -6])

    def test_unwish(self):
        desk = desk_of([("a", (1, 2), 0, 1, "tree")], [-3, 1, 5])
        for mark in (3, -1, 2, 7, -7, 200):
            self.is_refused(NotOn, {"mark": mark}, desk.unwish, mark)
        desk.unwish(1)
        self.assertEqual(desk.wishes(), [-3, 5])
        self.is_refused(NotOn, {"mark": 1}, desk.unwish, 1)
        desk.wish(-1)
        self.assertEqual(desk.wishes(), [-3, 5, -1])
        desk.back()
        desk.back()
        self.assertEqual(desk.wishes(), [-3, 1, 5])

    def test_back(self):
        desk = Desk()
        self.is_refused(NoDeed, {}, desk.back)
        desk.rule("a", [1, 2], 0, 1)
        desk.wish(3)
        desk.drop("a")
        desk.unwish(3)
        for rules, wishes in (([], [3]), (["a"], [3]), (["a"], []), ([], [])):
            self.assertIsNone(desk.back())
            self.assertEqual(([rule[0] for rule in desk.rules()], desk.wishes()), (rules, wishes))
        self.is_refused(NoDeed, {}, desk.back)

    def test_copied_and_new(self):
        desk = Desk()
        marks = [1, 2, 3]
        desk.rule("a", marks, 1, 2)
        marks.append(9)
        desk.wish(-1)
        desk.wish(-2)
        for ask in (desk.rules, desk.wishes, desk.clauses, desk.follows, desk.find, lambda: desk.why(3)):
            told = ask()
            kept = list(told)
            self.assertNotEqual(kept, [])
            told.clear()
            self.assertEqual(ask(), kept)
        self.assertEqual(desk.rules(), [("a", (1, 2, 3), 1, 2, "tree")])


class TestHistories(Telling):

    def test_histories(self):
        seen = []
        for seed in range(90):
            self.history(random.Random(seed), seen)
        for one in ("rule", "drop", "wish", "unwish", "back", IsRule, NoRule, NoMarks, NoBound, NoPlan, TooMany, IsPut,
                    NotOn, NoDeed):
            self.assertGreater(seen.count(one), 5, one)

    def history(self, chance, seen):
        desk = Desk()
        self.rules, self.wishes, self.deeds = [], [], []
        names = chance.sample(range(1, 103), chance.randrange(2, 10))
        for _ in range(25):
            deed = chance.choice(("rule", "rule", "rule", "wish", "wish", "drop", "unwish", "back"))
            handed, way = self.handed_by_chance(chance, names, deed)
            named = {"way": way} if deed == "rule" else {}
            refusal = self.refusal(deed, handed, way)
            seen.append(refusal[0] if refusal else deed)
            if refusal:
                self.is_refused(*refusal, getattr(desk, deed), *handed, **named)
            else:
                self.assertIsNone(getattr(desk, deed)(*handed, **named))
                self.do(deed, handed, way)
            self.assertEqual((desk.rules(), desk.wishes()), (self.rules, self.wishes))
            if chance.random() < 0.3:
                self.is_as_told(desk, self.rules, self.wishes)
        self.is_as_told(desk, self.rules, self.wishes)
        self.hangs_on_what_stands(desk)

    def hangs_on_what_stands(self, desk):
        """Another desk, of the same rules and wishes, tells the very same."""
        other = Desk()
        for mark in self.wishes:
            other.wish(mark)
        for word, marks, least, most, way in self.rules:
            other.rule(word, list(marks), least, most, way=way)
        for one in (desk, other, desk_of(self.rules, self.wishes)):
            self.assertEqual(one.clauses(), desk.clauses())
            self.assertEqual(one.follows(), desk.follows())
            self.assertEqual((one.find(), one.tally()), (desk.find(), desk.tally()))
            if desk.find() is None:
                self.assertEqual(one.none(), desk.none())
            if desk.follows() is None:
                self.assertEqual(one.why(None), desk.why(None))
            for mark in desk.follows() or []:
                self.assertEqual(one.why(mark), desk.why(mark))

    def handed_by_chance(self, chance, names, deed):
        words = [rule[0] for rule in self.rules]
        if deed == "rule":
            marks = [name * chance.choice((1, -1)) for name in chance.sample(names, chance.randrange(1, min(7, len(names)) + 1))]
            if chance.random() < 0.05:
                marks = marks + marks[:1]
            least = chance.randrange(len(marks) + 1)
            most = chance.randrange(least, len(marks) + 2) if chance.random() < 0.9 else chance.randrange(3)
            way = chance.choice(WAYS + ("codes",)) if chance.random() < 0.95 else "flat"
            return (chance.choice("abcdef"), marks, least, most), way
        if deed == "drop":
            return (chance.choice(words + ["z"]) if chance.random() < 0.8 else "a",), None
        if deed in ("wish", "unwish"):
            return (chance.choice(names + self.wishes) * chance.choice((1, -1)),), None
        return (), None

    def refusal(self, deed, handed, way):
        """What a deed is refused with, None where it isn't."""
        if deed == "back":
            return None if self.deeds else (NoDeed, {})
        if deed == "drop":
            return None if handed[0] in [rule[0] for rule in self.rules] else (NoRule, {"word": handed[0]})
        if deed == "unwish":
            return None if handed[0] in self.wishes else (NotOn, {"mark": handed[0]})
        rules, wishes = list(self.rules), list(self.wishes)
        if deed == "wish":
            mark, = handed
            if abs(mark) > 100:
                return (NoMarks, {})
            if mark in wishes or -mark in wishes:
                return (IsPut, {"name": abs(mark)})
            wishes.append(mark)
        else:
            word, marks, least, most = handed
            if word in [rule[0] for rule in rules]:
                return (IsRule, {"word": word})
            if len(set(map(abs, marks))) < len(marks) or max(map(abs, marks)) > 100:
                return (NoMarks, {})
            if least > most or least > len(marks):
                return (NoBound, {"low": least, "high": most})
            if way == "flat" or (way == "codes" and (most != 1 or len(marks) - least != 1)):
                return (NoPlan, {})
            rules.append((word, tuple(marks), least, most, way))
        many = len(names_of(rules, wishes))
        return (TooMany, {"many": many}) if many > 8 else None

    def do(self, deed, handed, way):
        if deed == "back":
            self.rules, self.wishes = self.deeds.pop()
            return
        self.deeds.append((self.rules, self.wishes))
        if deed == "rule":
            word, marks, least, most = handed
            self.rules = self.rules + [(word, tuple(marks), least, most, way)]
        elif deed == "drop":
            self.rules = [rule for rule in self.rules if rule[0] != handed[0]]
        elif deed == "wish":
            self.wishes = self.wishes + [handed[0]]
        else:
            self.wishes = [mark for mark in self.wishes if mark != handed[0]]


class TestWays(Telling):

    def test_what_follows_does_not_hang_on_the_ways(self):
        chance = random.Random(30)
        broken = 0
        for _ in range(150):
            names = chance.sample(range(1, 101), chance.randrange(1, 8))
            rules = []
            for word in "abcd"[:chance.randrange(1, 5)]:
                marks = tuple(name * chance.choice((1, -1)) for name in chance.sample(names, chance.randrange(1, len(names) + 1)))
                least = chance.randrange(len(marks) + 1)
                rules.append((word, marks, least, chance.randrange(least, len(marks) + 1)))
            wishes = [name * chance.choice((1, -1)) for name in chance.sample(names, chance.randrange(len(names) + 1))]
            told = follows_told([rule + ("tree",) for rule in rules], wishes)
            broken += told is None
            for _ in range(4):
                desk = desk_of([rule + (chance.choice(WAYS),) for rule in rules], wishes)
                self.assertEqual(desk.follows(), told)
                self.is_as_told(desk, desk.rules(), wishes)
        self.assertGreater(broken, 20)


if __name__ == "__main__":
    unittest.main()
