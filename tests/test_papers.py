"""Papers [31]: what is one, and what is none."""

import itertools
import random
import unittest

from mostclauses.papers import is_paper
from mostclauses.said import Said
from mostclauses.words import plan_for
from tellings import all_on, paper_holds

FOUR = [(1, 2), (1, -2), (-1, 2), (-1, -2)]


def rows_to_broken(clauses, puts):
    """Rows that show that it is broken, by steps one behind another, None where it isn't."""
    on, rows = set(puts), []
    while True:
        steps = []
        for row, clause in enumerate(clauses):
            left = [mark for mark in clause if -mark not in on]
            if not left:
                return rows + [row]
            if len(left) == 1 and left[0] not in on:
                steps.append((row, left[0]))
        if not steps:
            return None
        rows.append(steps[0][0])
        on.add(steps[0][1])


def paper_for(chance, clauses, puts, names):
    """A paper by looking at names as they come, None where a setting keeps all."""
    rows = rows_to_broken(clauses, puts)
    if rows is not None:
        return tuple(rows)
    on = all_on(clauses, puts)
    left = [name for name in names if name not in on and -name not in on]
    if not left:
        return None
    name = chance.choice(left)
    papers = [paper_for(chance, clauses, puts + [side], names) for side in (name, -name)]
    if None in papers:
        return None
    return (name, *papers)


def clauses_by_chance(chance, many, size):
    names = list(range(1, many + 1))
    found = []
    for _ in range(size):
        some = chance.sample(names, min(many, chance.choice((1, 2, 2, 3, 3, 3))))
        found.append(tuple(name * chance.choice((1, -1)) for name in some))
    return found


def spoilt(chance, paper):
    """The paper, a little changed."""
    if len(paper) == 3 and isinstance(paper[1], tuple):
        name, one, other = paper
        return chance.choice((
            (name, spoilt(chance, one), other), (name, one, spoilt(chance, other)), (name, other, one), (-name, one, other),
            (name + 1, one, other), (name, one), (one, other), [name, one, other], (True, one, other), (name, one, other, ()),
            (0, one, other), (str(name), one, other), (name, list(one), other), (name, one, None), one, other,
            (10 ** 12, paper, paper), (10 ** 12 + 1, paper, paper), (name, paper, paper), ((name,), one, other),
        ))
    rows = list(paper)
    at = chance.randrange(len(rows))
    return chance.choice((
        tuple(rows[:at] + rows[at + 1:]), tuple(rows[:at] + [rows[at] + 1] + rows[at + 1:]), tuple(rows[::-1]), rows,
        tuple(rows[:at] + [rows[at]] + rows[at:]), tuple(rows + [0]), tuple([0] + rows), tuple(rows + [-1]), (),
        tuple(rows[:at] + [True] + rows[at + 1:]), tuple(rows[:at] + [None] + rows[at + 1:]), tuple([10 ** 30] + rows),
        tuple(rows[:at] + [(rows[at],)] + rows[at + 1:]), tuple(rows[:at] + [str(rows[at])] + rows[at + 1:]), 0, None,
        tuple(row - 100 for row in rows),
    ))


class TestIsPaper(unittest.TestCase):

    def is_as_told(self, clauses, puts, thing):
        told = is_paper(clauses, puts, thing)
        self.assertIs(told, paper_holds(clauses, puts, thing))
        return told

    def test_small(self):
        self.assertIs(is_paper(FOUR, [], (1, (2, 3), (0, 1))), True)
        self.assertIs(is_paper(FOUR, [], (2, (1, 3), (0, 2))), True)
        self.assertIs(is_paper(FOUR, [], (1, (3, 2), (1, 0))), True)
        # The first paper is that of the name on.
        self.assertIs(is_paper(FOUR, [], (1, (0, 1), (2, 3))), False)
        self.assertIs(is_paper(FOUR, [], (1, (2, 3), (0,))), False)
        self.assertIs(is_paper(FOUR, [], (-1, (0, 1), (2, 3))), False)
        self.assertIs(is_paper(FOUR, [], (2, 3)), False)
        self.assertIs(is_paper(FOUR, [1], (2, 3)), True)
        self.assertIs(is_paper(FOUR, [1, -2], (2,)), True)
        self.assertIs(is_paper(FOUR, [1, -2], (3, 2)), False)
        self.assertIs(is_paper(FOUR, [-1], (2, 3)), False)
        self.assertIs(is_paper(FOUR, [3], (1, (2, 3), (0, 1))), True)

    def test_rows_of_three(self):
        # Three numbers are rows, not a name and two papers.
        self.assertIs(is_paper([(1,), (-1, 2), (-1, -2)], [], (0, 1, 2)), True)
        self.assertIs(is_paper([(1,), (-1, 2), (-1, -2)], [], (1, 1, 2)), False)
        self.assertIs(is_paper([()], [], (0,)), True)
        self.assertIs(is_paper([()], [], (0, 0)), False)
        self.assertIs(is_paper([()], [], ()), False)
        self.assertIs(is_paper([], [], ()), False)
        self.assertIs(is_paper([], [], (0,)), False)
        self.assertIs(is_paper([()], [], (-1,)), False)
        self.assertIs(is_paper([()], [], (False,)), False)

    def test_any_name_not_put(self):
        clauses = [(), (1, 2)]
        for name in (1, 2, 7, 10 ** 12):
            self.assertIs(is_paper(clauses, [], (name, (0,), (0,))), True)
        for name in (0, -1, -7, 10 ** 12 + 1, True, None, "1", (1,), [1], 10 ** 59):
            self.assertIs(is_paper(clauses, [], (name, (0,), (0,))), False)

    def test_a_name_that_is_put(self):
        clauses = [()]
        self.assertIs(is_paper(clauses, [3], (3, (0,), (0,))), False)
        self.assertIs(is_paper(clauses, [-3], (3, (0,), (0,))), False)
        self.assertIs(is_paper(clauses, [4], (3, (0,), (0,))), True)
        self.assertIs(is_paper(clauses, [], (3, (3, (0,), (0,)), (0,))), False)
        self.assertIs(is_paper(clauses, [], (3, (0,), (3, (0,), (0,)))), False)
        self.assertIs(is_paper(clauses, [], (3, (4, (0,), (0,)), (4, (0,), (5, (0,), (0,))))), True)
        self.assertIs(is_paper(clauses, [5], (3, (4, (0,), (0,)), (4, (0,), (5, (0,), (0,))))), False)

    def test_things_of_many_kinds(self):
        paper = (1, (2, 3), (0, 1))
        things = [
            None, True, False, 0, 1, 10 ** 60 - 1, "", "paper", "(1,)", [], [0], [1, (2, 3), (0, 1)], (), ((),), (None,),
            ("0",), (paper,), (1, paper), (1, [2, 3], (0, 1)), (1, (2, 3), [0, 1]), (1, (2, 3)), (1, (2, 3), (0, 1), ()),
            (1, (2, 3), 0), (1, 2, (0, 1)), (1, None, None), (1, (2, 3), None), ("1", (2, 3), (0, 1)), (True, (2, 3), (0, 1)),
            (1, ("2", 3), (0, 1)), (1, (2, 3), (0, True)), (1, (2, 3), (False, 1)), ((2, 3), (0, 1), 1), (1, (), (0, 1)),
        ]
        for thing in things:
            with self.subTest(thing=thing):
                self.assertIs(is_paper(FOUR, [], thing), False)
                self.is_as_told(FOUR, [1], thing)
        self.assertIs(is_paper(FOUR, [], paper), True)

    def test_deep_things(self):
        for start in ((), (0,), 0, None, [], "x"):
            for wrap in (
                lambda thing, at: (thing,), lambda thing, at: [thing], lambda thing, at: (at, thing, thing),
                lambda thing, at: (1, thing, thing), lambda thing, at: (at, thing, (0,)),
            ):
                thing = start
                for at in range(1, 101):
                    thing = wrap(thing, at)
                self.assertIs(is_paper([(-200,)], [], thing), False)
        thing = (0,)
        for at in range(1, 100):
            thing = (at, thing, (0,))
        self.assertIs(is_paper([()], [], thing), True)
        self.assertIs(is_paper([()], [99], thing), False)
        self.assertIs(is_paper([()], [-1], thing), False)
        self.assertIs(is_paper([()], [100], thing), True)

    def test_by_chance(self):
        chance = random.Random(31)
        found = 0
        told = []
        while found < 250:
            many = chance.randrange(1, 6)
            clauses = clauses_by_chance(chance, many, chance.randrange(2, 4 * many + 4))
            puts = [name * chance.choice((1, -1)) for name in chance.sample(range(1, many + 2), chance.randrange(2))]
            paper = paper_for(chance, clauses, puts, list(range(1, many + 1)))
            if paper is None:
                continue
            found += 1
            self.assertIs(is_paper(clauses, puts, paper), True)
            for _ in range(25):
                told.append(self.is_as_told(clauses, puts, spoilt(chance, paper)))
            self.is_as_told(clauses, [], paper)
            self.is_as_told(clauses, puts + [50], paper)
            self.is_as_told(clauses, puts + [-1] if -1 not in puts and 1 not in puts else puts, paper)
            self.is_as_told(clauses[1:], puts, paper)
        self.assertGreater(told.count(True), 100)
        self.assertGreater(told.count(False), 2000)

    def test_there_is_none_where_a_setting_keeps_all(self):
        clauses = [(1, 2), (-1, -2)]
        things = [(), (0,), (1,), (0, 1), (1, 0), (0, 0)]
        for name, one, other in itertools.product((1, 2, 3), things, things):
            self.assertIs(is_paper(clauses, [], (name, one, other)), False)

    def test_of_said(self):
        # At least two of four, by wishes that bar all but one.
        said = Said([-1, -2, -3, -4], 2, plan_for("tree", 4))
        puts = [-1, -2, -3]
        self.assertIs(is_paper(said.clauses(), puts, tuple(said.broken(puts))), True)
        self.assertIs(is_paper(said.clauses(), puts[:2], tuple(said.broken(puts))), False)

    def test_not_changed(self):
        clauses, puts = list(FOUR), [5]
        is_paper(clauses, puts, (1, (2, 3), (0, 1)))
        self.assertEqual((clauses, puts), (FOUR, [5]))


if __name__ == "__main__":
    unittest.main()
