"""Marks and clauses [4], asked of anything [2]."""

import copy
import unittest

from mostclauses.marks import is_clause, is_mark

MOST = 10 ** 12
SIXTY_FIGURES = 10 ** 60 - 1


def within(thing, kinds, depth):
    """A thing so deep within things of these kinds, by turns."""
    for at in range(depth):
        thing = kinds[at % len(kinds)]([thing])
    return thing


NO_NUMBERS = [
    True, False, None, "", "1", "-1", "5", "a text", "\n", [], [1], [[1]], (), (1,), (-1,), (1, 2), ((1,),),
    within(1, (tuple,), 100), within(1, (list,), 100), within(1, (tuple, list), 100),
    within("a", (list, tuple), 99), within((), (tuple,), 99),
]
NO_MARKS = NO_NUMBERS + [
    0, MOST + 1, -MOST - 1, 2 * MOST, 10 ** 59, -10 ** 59, SIXTY_FIGURES, -SIXTY_FIGURES,
]
MARKS = [1, -1, 2, -2, 5, -5, 64, 65, -65, 10 ** 9, MOST - 1, 1 - MOST, MOST, -MOST]


class TestIsMark(unittest.TestCase):

    def test_marks(self):
        for mark in MARKS:
            with self.subTest(mark=mark):
                self.assertIs(is_mark(mark), True)

    def test_no_marks(self):
        for thing in NO_MARKS:
            with self.subTest(thing=thing):
                self.assertIs(is_mark(thing), False)

    def test_the_other_one_too(self):
        for number in list(range(-100, 101)) + [MOST - 1, MOST, MOST + 1, SIXTY_FIGURES]:
            with self.subTest(number=number):
                self.assertIs(is_mark(number), is_mark(-number))


class TestIsClause(unittest.TestCase):

    def test_without_marks(self):
        self.assertIs(is_clause(()), True)

    def test_clauses(self):
        for mark in MARKS:
            with self.subTest(mark=mark):
                self.assertIs(is_clause((mark,)), True)
        for clause in [(1, 2), (2, 1), (-1, 2), (1, -2), (-2, -1), (3, 1, 2), (MOST, -1), (-MOST, MOST - 1, 7)]:
            with self.subTest(clause=clause):
                self.assertIs(is_clause(clause), True)

    def test_sixty_four_marks_at_the_most(self):
        for many in (1, 2, 63, 64):
            with self.subTest(many=many):
                self.assertIs(is_clause(tuple(range(1, many + 1))), True)
                self.assertIs(is_clause(tuple(range(-many, 0))), True)
                self.assertIs(is_clause(tuple(MOST - at for at in range(many))), True)
        for many in (65, 66, 128, 1000):
            with self.subTest(many=many):
                self.assertIs(is_clause(tuple(range(1, many + 1))), False)
                self.assertIs(is_clause(tuple(range(-many, 0))), False)

    def test_both_signs_of_many(self):
        self.assertIs(is_clause(tuple(at if at % 2 else -at for at in range(1, 65))), True)
        self.assertIs(is_clause(tuple(at if at % 2 else -at for at in range(1, 66))), False)

    def test_a_name_twice(self):
        for clause in [(1, 1), (1, -1), (-1, 1), (-1, -1), (MOST, MOST), (MOST, -MOST), (1, 2, 1), (2, 1, -1)]:
            with self.subTest(clause=clause):
                self.assertIs(is_clause(clause), False)

    def test_a_name_twice_at_any_places(self):
        for many in (2, 3, 5, 64):
            for one in range(many):
                for other in range(one):
                    for sign in (1, -1):
                        marks = list(range(1, many + 1))
                        marks[one] = sign * marks[other]
                        with self.subTest(marks=marks):
                            self.assertIs(is_clause(tuple(marks)), False)

    def test_no_mark_at_any_place(self):
        for thing in NO_MARKS:
            for many in (1, 2, 4, 64):
                for at in sorted({0, 1, many // 2, many - 1} & set(range(many))):
                    marks = list(range(1001, many + 1001))
                    marks[at] = thing
                    with self.subTest(thing=thing, many=many, at=at):
                        self.assertIs(is_clause(tuple(marks)), False)

    def test_a_truth_beside_its_like(self):
        for clause in [(True,), (True, 2), (2, True), (1, True), (True, 1), (False, 1), (1, 2, None), (True, False)]:
            with self.subTest(clause=clause):
                self.assertIs(is_clause(clause), False)

    def test_names_too_great(self):
        for clause in [(MOST + 1,), (-MOST - 1,), (1, MOST + 1), (MOST + 1, 1), (1, -MOST - 1, 2), (0,), (1, 0)]:
            with self.subTest(clause=clause):
                self.assertIs(is_clause(clause), False)

    def test_no_tuple(self):
        for thing in [[], [1], [1, 2], [-1, 2, 3], list(range(1, 65)), "", "12", "1 2", None, True, False]:
            with self.subTest(thing=thing):
                self.assertIs(is_clause(thing), False)
        for number in MARKS + [0, MOST + 1, SIXTY_FIGURES, -SIXTY_FIGURES]:
            with self.subTest(number=number):
                self.assertIs(is_clause(number), False)

    def test_a_clause_within(self):
        for thing in [((1, 2),), [(1, 2)], ((),), [()], ((1,), (2,)), ([1, 2],), ((1, 2), 3), (3, (1, 2))]:
            with self.subTest(thing=thing):
                self.assertIs(is_clause(thing), False)

    def test_a_hundred_deep(self):
        for kinds in [(tuple,), (list,), (tuple, list), (list, tuple)]:
            for inner in [1, True, None, "a", (), (1, 2), []]:
                deep = within(inner, kinds, 98)
                for thing in [deep, (deep,), (1, deep), (deep, 1), (deep, deep), [deep]]:
                    with self.subTest(kinds=kinds, inner=inner):
                        self.assertIs(is_clause(thing), False)
                        self.assertIs(is_mark(thing), False)

    def test_not_changed(self):
        for thing in [[1, 2], ([1], 2), [[1, [2, 2]], (3,)], ([], [])]:
            before = copy.deepcopy(thing)
            is_clause(thing)
            is_mark(thing)
            with self.subTest(thing=before):
                self.assertEqual(thing, before)

    def test_asked_again(self):
        for thing in [(1, 2), (1, 1), [1, 2], (1, [2])]:
            with self.subTest(thing=thing):
                self.assertIs(is_clause(thing), is_clause(thing))


if __name__ == "__main__":
    unittest.main()
