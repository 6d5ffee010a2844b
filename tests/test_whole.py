"""What [3] promises, over the whole program: the ways of saying a bound against each other."""

import itertools
import random
import unittest

from mostclauses.added import Added
from mostclauses.between import Between
from mostclauses.desk import Desk
from mostclauses.errors import TooMany
from mostclauses.keeper import Keeper
from mostclauses.knots import sizes
from mostclauses.least import least
from mostclauses.looks import first_wrong
from mostclauses.plain import first_unlike
from mostclauses.said import Said
from mostclauses.texts import read_clauses, show_clauses
from mostclauses.words import plan_for
from tellings import all_hold, all_on, lengthened, plan_by_chance, small_plans

WORDS = ("pairs", "codes", "row", "tree", "nets", "groups")


def marks_for(many, start=1):
    """Some marks, by turns of either sign."""
    return [name if name % 2 else -name for name in range(start, start + many)]


def plans_by_chance(chance, many):
    """Plans of all kinds, each with a MOST."""
    found = [(plan_for(word, many), most) for word in WORDS for most in range(many + 2) if word != "codes" or most == 1]
    found += [(plan_by_chance(chance, many), chance.randrange(many + 1)) for _ in range(10)]
    found += [(plan_by_chance(chance, many, "codes"), 1) for _ in range(4)]
    return found + [(least(many, most)[0], most) for most in range(many + 1)]


class TestWhole(unittest.TestCase):

    def keeps_promise(self, marks, most, clauses, names, puts, states):
        """(a), (b), (c) by clauses and puts alone, at a setting of marks that are on, off, or neither."""
        on = [mark for mark, state in zip(marks, states) if state == 1]
        off = [-mark for mark, state in zip(marks, states) if state == -1]
        now = all_on(clauses, puts + on + off)
        if len(on) > most:
            self.assertIsNone(now)
            self.assertIsNone(all_on(clauses, puts + on))
            return
        others = [mark for mark in marks if mark not in on and -mark not in off]
        wanted = {-mark for mark in others} if len(on) == most else set()
        self.assertEqual({mark for mark in now if abs(mark) in {abs(one) for one in others}}, wanted)
        state = lengthened(marks, names, on)
        self.assertTrue(all_hold(clauses, state))
        self.assertLessEqual(set(puts), state)

    def test_all_ways(self):
        chance = random.Random(3)
        for many in range(1, 5):
            marks = marks_for(many, 4)
            for plan, most in plans_by_chance(chance, many) + [(plan, 1) for plan in small_plans(min(many, 3)) if many < 4]:
                said = Said(marks, most, plan)
                self.assertEqual((len(said.names()), len(said)), sizes(plan, most))
                self.assertIsNone(first_wrong(marks, most, said.knots()))
                self.assertEqual(read_clauses(show_clauses(said.clauses())), said.clauses())
                for states in itertools.product((1, 0, -1), repeat=many):
                    self.keeps_promise(marks, most, said.clauses(), said.names(), [], states)

    def test_greater_ones(self):
        chance = random.Random(4)
        for many in (6, 9, 14):
            marks = chance.sample(marks_for(30), many)
            for plan, most in plans_by_chance(chance, many):
                try:
                    said = Said(marks, most, plan)
                except TooMany:
                    self.assertGreater(sizes(plan, most)[1], 3003)
                    continue
                self.assertEqual((len(said.names()), len(said)), sizes(plan, most))
                for _ in range(4):
                    states = [chance.choice((1, 0, -1)) for _ in marks]
                    self.keeps_promise(marks, most, said.clauses(), said.names(), [], states)

    def test_keeper(self):
        chance = random.Random(5)
        for many in (2, 3, 4):
            keeper = Keeper(marks_for(many), 1, ("sums",) + (1,) * many)
            for _ in range(12):
                deed = chance.randrange(4)
                if deed == 0 and len(keeper.marks()) < 5:
                    keeper.bound(None)
                    keeper.more([chance.choice((1, -1)) * (keeper.names()[-1][0] + 1)], 1)
                elif deed == 1:
                    keeper.wider(keeper.reach() + 1)
                elif deed == 2:
                    keeper.bound(chance.randrange(keeper.reach()))
                elif keeper.most() is not None:
                    keeper.back()
                most = len(keeper.marks()) if keeper.most() is None else keeper.most()
                for states in itertools.product((1, 0, -1), repeat=len(keeper.marks())):
                    if len([state for state in states if state == 0]) < 3:
                        self.keeper_keeps_promise(keeper, most, states)

    def keeper_keeps_promise(self, keeper, most, states):
        # Marks that were taken back are off, as marks more that are never on.
        there = {abs(mark) for mark in keeper.marks()}
        named = {name for name, _ in keeper.names()}
        gone = sorted({abs(mark) for clause in keeper.clauses() for mark in clause} - there - named)
        on = [mark for mark, state in zip(keeper.marks(), states) if state == 1]
        off = [-mark for mark, state in zip(keeper.marks(), states) if state == -1]
        now = all_on(keeper.clauses(), keeper.puts() + on + off)
        if len(on) > most:
            self.assertIsNone(now)
            return
        others = [mark for mark in keeper.marks() if mark not in on and -mark not in off]
        wanted = {-mark for mark in others} if len(on) == most else set()
        self.assertEqual({mark for mark in now if abs(mark) in {abs(one) for one in others}}, wanted)
        state = lengthened(keeper.marks() + gone, keeper.names(), on)
        self.assertTrue(all_hold(keeper.clauses(), state))
        self.assertLessEqual(set(keeper.puts()), state)
        self.assertEqual(keeper.kept(on), [name if name in state else -name for name, _ in keeper.names()])

    def test_all_say_the_same(self):
        for many in (2, 3, 5):
            marks = marks_for(many)
            for most in range(many + 1):
                ways = [Added(marks, most), Between(marks, 0, most)]
                ways += [Said(marks, most, plan_for(word, many)) for word in WORDS if word != "codes" or most == 1]
                keeper = Keeper(marks, many, ("sums",) + (1,) * many)
                keeper.bound(most)
                plain = Said(marks, most, plan_for("pairs", many)).clauses()
                self.assertIsNone(first_unlike(marks, most, plain))
                for on in itertools.chain(*[itertools.combinations(marks, size) for size in range(many + 1)]):
                    for way in ways + [keeper]:
                        self.assertEqual(way.kept(list(on)) is None, len(on) > most)
                        self.assertEqual(way.broken(list(on)) is None, len(on) <= most)

    def test_desk_says_what_its_rules_say(self):
        for word, least_on, most in (("tree", 1, 2), ("nets", 2, 2), ("row", 0, 1), ("groups", 4, 4), ("pairs", 0, 4)):
            desk = Desk()
            desk.rule("a", marks_for(4), least_on, most, way=word)
            between = Between(marks_for(4), least_on, most, way=word, fresh=101)
            self.assertEqual(desk.clauses(), between.clauses())
            settings = itertools.product((True, False), repeat=4)
            kept = [[mark for mark, side in zip(marks_for(4), sides) if side] for sides in settings]
            self.assertEqual(desk.tally(), len([on for on in kept if between.kept(on) is not None]))
            for mark in marks_for(4):
                desk.wish(mark)
                told = between.follows(desk.wishes())
                self.assertEqual(desk.follows(), told and sorted([one for one, _ in told], key=abs))


if __name__ == "__main__":
    unittest.main()
