"""The follower [7], over what [5] and [6] say."""

import random
import unittest

from mostclauses.errors import IsBroken, IsPut, NoPut, NotOn
from mostclauses.follower import Follower
from mostclauses.shows import is_shown
from tellings import all_on


def rising_on(clauses, puts):
    """The rising list of all that is on by these puts, None where it is broken."""
    on = all_on(clauses, puts)
    return None if on is None else sorted(on, key=abs)


class Told(unittest.TestCase):
    """What a follower is told to be by its clauses and puts alone, and that it is so."""

    def holds_rows(self, follower, mark):
        rows = follower.shown(mark)
        self.assertIsInstance(rows, list)
        self.assertEqual(len(set(rows)), len(rows))
        self.assertTrue(is_shown(follower.clauses(), follower.puts(), rows, mark), (mark, rows))

    def is_as_told(self, follower, clauses, puts, marks):
        """That all it tells is as these clauses and puts tell, of each of these marks, too."""
        on = rising_on(clauses, puts)
        self.assertEqual(follower.clauses(), clauses)
        self.assertEqual(follower.puts(), puts)
        self.assertIs(follower.is_broken(), on is None)
        if on is None:
            self.assertRaises(IsBroken, follower.on)
            self.holds_rows(follower, None)
            for mark in marks:
                self.assertRaises(IsBroken, follower.shown, mark)
                self.assertRaises(IsBroken, follower.put, mark)
            self.assertRaises(IsBroken, follower.add, (1, 2))
            return
        self.assertEqual(follower.on(), on)
        for mark in marks:
            if mark in on:
                self.holds_rows(follower, mark)
            else:
                self.is_not_on(follower, mark)
        self.is_not_on(follower, None)

    def is_not_on(self, follower, mark):
        with self.assertRaises(NotOn) as caught:
            follower.shown(mark)
        self.assertEqual(caught.exception.mark, mark)


class TestMade(Told):

    def test_of_no_clauses(self):
        follower = Follower([])
        self.is_as_told(follower, [], [], [1, -1, 7])
        self.assertEqual(follower.on(), [])
        self.assertEqual(follower.put(-7), [])
        self.assertEqual(follower.on(), [-7])

    def test_what_follows_of_nothing(self):
        follower = Follower([(-3, 2), (3,), (-2, -1), (4, 5)])
        self.assertEqual(follower.on(), [-1, 2, 3])
        self.is_as_told(follower, [(-3, 2), (3,), (-2, -1), (4, 5)], [], [1, -1, 2, -2, 3, 4])
        self.assertEqual(follower.shown(3), [1])
        self.assertEqual(follower.shown(2), [1, 0])

    def test_broken_by_nothing(self):
        for clauses in ([()], [(1, 2), ()], [(1,), (-1,)], [(1,), (-1, 2), (-2, -1)]):
            follower = Follower(clauses)
            self.is_as_told(follower, clauses, [], [1, -1, 2])
            self.assertRaises(NoPut, follower.back)
            self.assertIs(follower.is_broken(), True)

    def test_copied_where_it_is_kept(self):
        clauses = [(-1, 2), (-2, 3)]
        follower = Follower(clauses)
        clauses[1] = (-2, -3)
        clauses.append((-1,))
        self.assertEqual(follower.put(1), [2, 3])
        self.assertEqual(follower.clauses(), [(-1, 2), (-2, 3)])
        self.assertEqual(clauses, [(-1, 2), (-2, -3), (-1,)])

    def test_not_changed(self):
        clauses = [(-1, 2)]
        follower = Follower(clauses)
        follower.add((3,))
        self.assertEqual(clauses, [(-1, 2)])

    def test_lists_are_the_askers_own(self):
        follower = Follower([(-1, 2), (-1, -3), (4,)])
        told = follower.put(1)
        self.assertEqual(told, [2, -3])
        for ask in (follower.on, follower.puts, follower.clauses, lambda: follower.shown(2)):
            first = ask()
            kept = list(first)
            first.append(9)
            first[0] = 8
            self.assertEqual(ask(), kept)
        told.append(7)
        self.assertEqual(follower.on(), [1, 2, -3, 4])
        follower.back()
        self.assertEqual(follower.on(), [4])


class TestPut(Told):

    def test_told_is_what_comes_on_besides(self):
        follower = Follower([(-1, 2), (-2, -3), (3, 5, 6), (-7, 8), (-5, 4)])
        self.assertEqual(follower.put(7), [8])
        self.assertEqual(follower.put(1), [2, -3])
        self.assertEqual(follower.put(-6), [4, 5])
        self.assertEqual(follower.on(), [1, 2, -3, 4, 5, -6, 7, 8])

    def test_rising_by_names(self):
        follower = Follower([(-9, -4), (4, 3), (-3, -12), (12, 1)])
        self.assertEqual(follower.put(9), [1, 3, -4, -12])
        self.assertEqual(follower.on(), [1, 3, -4, 9, -12])

    def test_brings_nothing(self):
        follower = Follower([(-1, 2, 3)])
        self.assertEqual(follower.put(1), [])
        self.assertEqual(follower.put(2), [])
        self.assertEqual(follower.put(-3), [])

    def test_on_already(self):
        follower = Follower([(-1, 2), (-2, 3), (4,)])
        follower.put(1)
        self.assertEqual(follower.put(2), [])
        self.assertEqual(follower.put(4), [])
        self.is_as_told(follower, [(-1, 2), (-2, 3), (4,)], [1, 2, 4], [1, 2, 3, 4, -2])
        # No row may bring on what is put, though one did.
        self.assertEqual(follower.shown(2), [])
        self.assertEqual(follower.shown(3), [1])
        self.assertEqual(follower.back(), 4)
        self.assertEqual(follower.back(), 2)
        self.assertEqual(follower.shown(3), [0, 1])
        self.assertEqual(follower.on(), [1, 2, 3, 4])

    def test_off_already(self):
        clauses = [(-1, 2), (-2, 3), (-3, -4)]
        follower = Follower(clauses)
        follower.put(1)
        self.assertIsNone(follower.put(4))
        self.is_as_told(follower, clauses, [1, 4], [1, 2, 3, 4, -4])
        self.assertEqual(follower.back(), 4)
        self.is_as_told(follower, clauses, [1], [1, 2, 3, 4, -4])
        self.assertIsNone(follower.put(-3))
        self.assertEqual(follower.shown(None), [0, 1])

    def test_broken_by_it(self):
        clauses = [(-1, 2), (-1, 3), (-2, -3, 4), (-4, -1)]
        follower = Follower(clauses)
        self.assertIsNone(follower.put(1))
        self.is_as_told(follower, clauses, [1], [1, -1, 2, 3, 4])
        self.assertEqual(follower.back(), 1)
        self.is_as_told(follower, clauses, [], [1, -1, 2, 3, 4])
        self.assertEqual(follower.put(-1), [])

    def test_refused(self):
        follower = Follower([(-1, 2), (-5, -1)])
        follower.put(1)
        follower.put(-8)
        for mark, name in ((1, 1), (-1, 1), (8, 8), (-8, 8)):
            with self.assertRaises(IsPut) as caught:
                follower.put(mark)
            self.assertEqual(caught.exception.name, name)
        self.is_as_told(follower, [(-1, 2), (-5, -1)], [1, -8], [1, 2, -5, 8, -8])
        self.assertIsNone(follower.put(5))
        for mark in (1, -1, 8, 5, -5, 6):
            self.assertRaises(IsBroken, follower.put, mark)
        self.assertEqual(follower.puts(), [1, -8, 5])

    def test_put_again_behind_back(self):
        follower = Follower([(-1, 2)])
        for mark, brought in ((1, [2]), (-1, []), (-2, [-1]), (1, [2])):
            self.assertEqual(follower.put(mark), brought)
            self.assertEqual(follower.back(), mark)
        self.assertEqual(follower.puts(), [])


class TestBack(Told):

    def test_none_there(self):
        follower = Follower([(1,)])
        self.assertRaises(NoPut, follower.back)
        follower.put(2)
        follower.back()
        self.assertRaises(NoPut, follower.back)
        self.assertEqual(follower.on(), [1])

    def test_in_turn(self):
        clauses = [(-1, -2, 3), (-3, 4), (-5, -4, 6)]
        follower = Follower(clauses)
        for mark in (5, 1, 2):
            follower.put(mark)
        self.assertEqual(follower.on(), [1, 2, 3, 4, 5, 6])
        self.assertEqual(follower.back(), 2)
        self.assertEqual(follower.on(), [1, 5])
        self.assertEqual(follower.back(), 1)
        self.assertEqual(follower.on(), [5])
        self.assertEqual(follower.put(3), [4, 6])

    def test_clauses_that_were_added_stay(self):
        follower = Follower([])
        follower.put(1)
        follower.put(2)
        self.assertEqual(follower.add((-1, 3)), [3])
        self.assertEqual(follower.add((4,)), [4])
        self.assertEqual(follower.add((-2, 5)), [5])
        self.assertEqual(follower.back(), 2)
        self.assertEqual(follower.on(), [1, 3, 4])
        self.assertEqual(follower.back(), 1)
        self.assertEqual(follower.on(), [4])
        self.is_as_told(follower, [(-1, 3), (4,), (-2, 5)], [], [1, 2, 3, 4, 5, -4])
        self.assertEqual(follower.put(2), [5])

    def test_still_broken_behind_it(self):
        follower = Follower([(-1, 2)])
        for mark in (1, 7, 8):
            follower.put(mark)
        self.assertIsNone(follower.add((-2, -7)))
        for puts in ([1, 7, 8], [1, 7]):
            self.is_as_told(follower, [(-1, 2), (-2, -7)], puts, [1, 7, 8])
            self.assertIs(follower.is_broken(), True)
            follower.back()
        self.assertIs(follower.is_broken(), False)
        self.assertEqual(follower.on(), [1, 2, -7])

    def test_broken_for_good(self):
        follower = Follower([(1, 2)])
        follower.put(1)
        follower.put(3)
        self.assertIsNone(follower.add(()))
        self.assertEqual(follower.back(), 3)
        self.assertEqual(follower.back(), 1)
        self.assertIs(follower.is_broken(), True)
        self.assertEqual(follower.shown(None), [1])
        self.assertRaises(NoPut, follower.back)
        self.assertRaises(IsBroken, follower.put, 4)
        self.assertRaises(IsBroken, follower.add, (4,))
        self.assertRaises(IsBroken, follower.shown, 1)
        self.assertRaises(IsBroken, follower.on)

    def test_added_twice_and_back(self):
        follower = Follower([])
        follower.put(1)
        follower.put(2)
        self.assertEqual(follower.add((-1, 3)), [3])
        self.assertEqual(follower.back(), 2)
        self.assertEqual(follower.put(4), [])
        self.assertEqual(follower.add((-3, -4, 5)), [5])
        self.assertEqual(follower.back(), 4)
        self.assertEqual(follower.on(), [1, 3])
        self.assertEqual(follower.back(), 1)
        self.assertEqual(follower.on(), [])


class TestAdd(Told):

    def test_told_likewise(self):
        follower = Follower([(-2, 3), (-3, -4)])
        self.assertEqual(follower.add((7, 8)), [])
        self.assertEqual(follower.add((2,)), [2, 3, -4])
        self.assertEqual(follower.add((4, 3)), [])
        self.assertEqual(follower.add((4, 9)), [9])
        self.assertIsNone(follower.add((4, -9)))
        clauses = [(-2, 3), (-3, -4), (7, 8), (2,), (4, 3), (4, 9), (4, -9)]
        self.is_as_told(follower, clauses, [], [2, 3, 4, 9])

    def test_refused_while_broken(self):
        follower = Follower([(-1, 2)])
        follower.put(1)
        self.assertIsNone(follower.put(-2))
        self.assertRaises(IsBroken, follower.add, (3,))
        self.assertEqual(follower.clauses(), [(-1, 2)])
        follower.back()
        self.assertEqual(follower.on(), [1, 2])
        self.assertEqual(follower.add((3,)), [3])

    def test_a_long_one(self):
        follower = Follower([])
        for name in range(1, 64):
            follower.put(-name)
        self.assertEqual(follower.add(tuple(range(1, 65))), [64])
        self.assertIsNone(follower.add(tuple(range(1, 64))))


class TestShown(Told):

    def test_rows_of_each(self):
        clauses = [(-2, 3), (-1, 2), (-1, -3, 4), (5,), (-5, -4, 6), (-6, -7)]
        follower = Follower(clauses)
        follower.put(1)
        self.is_as_told(follower, clauses, [1], [1, 2, 3, 4, 5, 6, 7, -7, -1])
        self.assertEqual(follower.shown(1), [])
        self.assertEqual(follower.shown(2), [1])
        self.assertEqual(follower.shown(3), [1, 0])
        self.assertEqual(follower.shown(5), [3])

    def test_no_rows_of_what_is_not_needed(self):
        follower = Follower([(-1, 2), (-1, 3), (-2, 4), (5, 6)])
        follower.put(1)
        self.assertEqual(sorted(follower.shown(4)), [0, 2])
        self.assertEqual(follower.shown(3), [1])

    def test_not_on(self):
        follower = Follower([(-1, 2)])
        follower.put(1)
        for mark in (-1, -2, 3, -3, 10 ** 12):
            self.is_not_on(follower, mark)
        self.is_not_on(follower, None)

    def test_a_mark_asked_while_broken(self):
        follower = Follower([(-1, 2), (-2, -1)])
        follower.put(1)
        for mark in (1, -1, 2, -2, 3):
            self.assertRaises(IsBroken, follower.shown, mark)
        self.holds_rows(follower, None)


class TestLong(Told):

    def test_a_long_chain(self):
        many = 20000
        clauses = [(-name, name + 1) for name in range(1, many)]
        random.Random(5).shuffle(clauses)
        follower = Follower(clauses)
        self.assertEqual(follower.put(1), list(range(2, many + 1)))
        self.assertEqual(len(follower.shown(many)), many - 1)
        self.holds_rows(follower, many)
        self.assertIsNone(follower.add((-many,)))
        self.holds_rows(follower, None)
        self.assertEqual(follower.back(), 1)
        self.assertEqual(follower.on(), [-name for name in range(1, many + 1)])

    def test_a_chain_of_two_ways_each(self):
        many = 400
        clauses = []
        for at in range(1, 3 * many, 3):
            clauses += [(-at, at + 1), (-at, at + 2), (-at - 1, -at - 2, at + 3)]
        follower = Follower(clauses)
        follower.put(1)
        self.assertEqual(len(follower.shown(3 * many + 1)), 3 * many)
        self.holds_rows(follower, 3 * many + 1)
        self.assertIsNone(follower.add((-1, -3 * many - 1)))
        self.holds_rows(follower, None)

    def test_many_puts(self):
        many = 3000
        follower = Follower([(-name, -name - 1, -name - 2) for name in range(1, many)])
        for name in range(1, many + 1, 3):
            follower.put(name)
            follower.put(-name - 2)
        self.assertEqual(len(follower.puts()), 2 * many // 3)
        for _ in range(2 * many // 3):
            follower.back()
        self.assertEqual(follower.on(), [])
        self.assertEqual(follower.put(1), [])
        self.assertEqual(follower.put(2), [-3])

    def test_a_chain_that_is_added(self):
        follower = Follower([])
        follower.put(1)
        follower.put(5000)
        for name in range(1, 2000):
            self.assertEqual(follower.add((-name, name + 1)), [name + 1])
        follower.back()
        self.assertEqual(follower.on(), list(range(1, 2001)))
        self.holds_rows(follower, 2000)
        follower.back()
        self.assertEqual(follower.on(), [])


class TestHistories(Told):

    def history(self, chance, names, lens, many):
        """A history of deeds, at each of which all that is told is looked at."""
        marks = [sign * name for name in range(1, names + 1) for sign in (1, -1)]

        def clause():
            chosen = chance.sample(range(1, names + 1), min(names, chance.choice(lens)))
            return tuple(chance.choice((1, -1)) * name for name in chosen)

        clauses = [clause() for _ in range(chance.randrange(2 * names))]
        puts = []
        follower = Follower(clauses)
        for _ in range(many):
            before = rising_on(clauses, puts)
            self.is_as_told(follower, clauses, puts, marks)
            deed = chance.choice(("put", "put", "put", "add", "back"))
            if deed == "back" or before is None:
                if puts:
                    self.assertEqual(follower.back(), puts.pop())
                else:
                    self.assertRaises(NoPut, follower.back)
                    if before is None:
                        return
            elif deed == "put":
                mark = chance.choice(marks)
                if mark in puts or -mark in puts:
                    with self.assertRaises(IsPut) as caught:
                        follower.put(mark)
                    self.assertEqual(caught.exception.name, abs(mark))
                else:
                    puts.append(mark)
                    self.is_news(follower.put(mark), before + [mark], rising_on(clauses, puts))
            else:
                clauses = clauses + [clause()]
                self.is_news(follower.add(clauses[-1]), before, rising_on(clauses, puts))

    def is_news(self, told, before, now):
        if now is None:
            self.assertIsNone(told)
        else:
            self.assertEqual(told, [mark for mark in now if mark not in before])

    def test_histories(self):
        for seed in range(300):
            chance = random.Random(seed)
            with self.subTest(seed=seed):
                self.history(chance, chance.choice((3, 5, 8, 12)), chance.choice(((2,), (2, 3), (1, 2, 3, 4), (3,))), 25)

    def test_told_the_same_again(self):
        for seed in range(20):
            told = []
            for _ in range(2):
                chance = random.Random(seed)
                clauses = [tuple(chance.choice((1, -1)) * name for name in chance.sample(range(1, 20), 2))
                           for _ in range(15)]
                follower = Follower(clauses)
                heard = []
                for name in range(1, 20):
                    if not follower.is_broken():
                        heard.append(follower.put(name) if name not in follower.on() else None)
                heard.append(follower.shown(None) if follower.is_broken()
                             else [follower.shown(mark) for mark in follower.on()])
                told.append(heard)
            self.assertEqual(told[0], told[1])


if __name__ == "__main__":
    unittest.main()
