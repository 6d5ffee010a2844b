"""Steps and rows [5, 6]."""

import copy
import itertools
import unittest

from mostclauses.shows import is_shown

CHAIN = [(-1, 2), (-2, 3), (-1, -3, 4), (-4, -2)]
MOST = 10 ** 12


def told_slowly(clauses, puts, rows, mark):
    """Whether rows show a mark, said over again from [5] and [6] by a state of each name."""
    state = {abs(put): put > 0 for put in puts}

    def off(one):
        return abs(one) in state and state[abs(one)] != (one > 0)

    for at, row in enumerate(rows):
        if row not in range(len(clauses)):
            return False
        clause = clauses[row]
        offs = [one for one in clause if off(one)]
        free = [one for one in clause if abs(one) not in state]
        if len(offs) == len(clause):
            return mark is None and at == len(rows) - 1
        if len(offs) != len(clause) - 1 or len(free) != 1:
            return False
        state[abs(free[0])] = free[0] > 0
    return mark is not None and state.get(abs(mark)) == (mark > 0)


class TestMark(unittest.TestCase):

    def shows(self, clauses, puts, rows, mark):
        self.assertIs(is_shown(clauses, puts, rows, mark), True)

    def fails(self, clauses, puts, rows, mark):
        self.assertIs(is_shown(clauses, puts, rows, mark), False)

    def test_a_step(self):
        self.shows([(-1, 2)], [1], [0], 2)
        self.shows([(2, -1)], [1], [0], 2)
        self.shows([(-1, 2)], [-2], [0], -1)
        self.shows([(1, 2, 3)], [-1, -3], [0], 2)
        self.shows([(1, 2, 3)], [-3, -1], [0], 2)
        self.shows([(1, -2, 3)], [-1, -3], [0], -2)
        self.shows([(-MOST, MOST - 1)], [MOST], [0], MOST - 1)

    def test_a_clause_of_one_mark(self):
        self.shows([(5,)], [], [0], 5)
        self.shows([(-5,)], [], [0], -5)
        self.shows([(1, 2), (5,)], [-7], [1], 5)
        self.fails([(5,)], [5], [0], 5)
        self.fails([(5,)], [-5], [0], 5)
        self.fails([(5,)], [-5], [0], -5)

    def test_a_chain(self):
        self.shows(CHAIN, [1], [0], 2)
        self.shows(CHAIN, [1], [0, 1], 3)
        self.shows(CHAIN, [1], [0, 1, 2], 4)
        self.shows(CHAIN, [1], [0, 3], -4)
        self.shows(CHAIN, [1], [0, 3, 1], 3)

    def test_on_before_the_last_row(self):
        for mark in (1, 2, 3, 4):
            self.shows(CHAIN, [1], [0, 1, 2], mark)
            self.fails(CHAIN, [1], [0, 1, 2], -mark)

    def test_a_row_left_out(self):
        for rows in ([1, 2], [0, 2], [2], [1], [0, 1]):
            self.fails(CHAIN, [1], rows, 4)

    def test_a_row_twice(self):
        for rows in ([0, 0, 1, 2], [0, 1, 0, 2], [0, 1, 2, 0], [0, 1, 1, 2], [0, 1, 2, 1], [0, 1, 2, 2]):
            self.fails(CHAIN, [1], rows, 4)
        self.fails(CHAIN, [1], [0, 0], 2)

    def test_rows_exchanged(self):
        for rows in itertools.permutations([0, 1, 2]):
            if rows != (0, 1, 2):
                self.fails(CHAIN, [1], list(rows), 4)
        self.fails(CHAIN, [1], [1, 0], 3)

    def test_rows_that_may_be_exchanged(self):
        self.shows([(-1, 2), (-1, 3)], [1], [0, 1], 3)
        self.shows([(-1, 2), (-1, 3)], [1], [1, 0], 3)
        self.shows([(-1, 2), (-1, 3)], [1], [1, 0], 2)

    def test_a_row_put_in(self):
        for at in range(4):
            for row in (-1, 0, 1, 2, 3, 4):
                rows = [0, 1, 2]
                rows.insert(at, row)
                self.fails(CHAIN, [1], rows, 4)

    def test_a_row_put_in_that_brings_another(self):
        clauses = CHAIN + [(-1, -6)]
        for at in range(4):
            rows = [0, 1, 2]
            rows.insert(at, 4)
            self.shows(clauses, [1], rows, 4)

    def test_another_row(self):
        for at in range(3):
            for row in (-1, 0, 1, 2, 3, 4):
                rows = [0, 1, 2]
                if rows[at] != row:
                    rows[at] = row
                    self.fails(CHAIN, [1], rows, 4)

    def test_below_nought(self):
        self.fails([(-1, 2)], [1], [-1], 2)
        self.fails([(7, 8), (-1, 2)], [1], [-1], 2)
        self.fails([(7, 8), (-1, 2)], [1], [-2], 2)
        self.fails(CHAIN, [1], [-4, 1, 2], 4)
        self.fails(CHAIN, [1], [0, -3], 3)
        self.fails(CHAIN, [1], [0, -3, 2], 4)
        self.fails(CHAIN, [1], [0, 1, -2], 4)
        self.fails(CHAIN, [1], [0, 1, 2, -1], 4)
        self.fails(CHAIN, [1], [-5], 1)
        self.fails(CHAIN, [1], [-10 ** 59], 1)

    def test_beyond_the_last_clause(self):
        self.fails(CHAIN, [1], [0, 1, 4], 4)
        self.fails(CHAIN, [1], [4], 1)
        self.fails(CHAIN, [1], [0, 4], 2)
        self.fails(CHAIN, [1], [0, 5, 1], 3)
        self.fails(CHAIN, [1], [0, 10 ** 59], 2)
        self.fails([], [1], [0], 1)
        self.fails([], [1], [-1], 1)

    def test_does_nothing_as_its_mark_is_on(self):
        clauses = [(-1, 2), (-1, 2), (-1, -3, 2), (3,)]
        self.shows(clauses, [1], [0], 2)
        self.shows(clauses, [1], [1], 2)
        self.fails(clauses, [1], [0, 1], 2)
        self.fails(clauses, [1], [1, 0], 2)
        self.shows(clauses, [1], [3, 2], 2)
        self.fails(clauses, [1], [3, 0, 2], 2)
        self.fails(clauses, [1, 2], [0], 2)
        self.fails([(1,)], [1], [0], 1)

    def test_does_nothing_as_it_holds_already(self):
        self.fails([(1, 2)], [1], [0], 1)
        self.fails([(1, 2)], [1], [0], 2)
        self.fails([(1, 2, 3)], [1, -2], [0], 3)
        self.fails([(1, 2, 3)], [1, -2], [0], 1)
        self.fails([(1, 2)], [1, 2], [0], 1)

    def test_does_nothing_as_two_are_left(self):
        self.fails([(-1, 2, 3)], [1], [0], 2)
        self.fails([(-1, 2, 3)], [1], [0], 3)
        self.fails([(-1, 2, 3)], [1], [0], 1)
        self.fails([(1, 2)], [], [0], 1)

    def test_does_nothing_behind_the_row_that_brings_it(self):
        clauses = [(-1, 2), (5, 6), (1, 7), (-1, -2, 8, 9)]
        self.shows(clauses, [1], [0], 2)
        for row in (0, 1, 2, 3):
            self.fails(clauses, [1], [0, row], 2)
            self.fails(clauses, [1], [row, 0], 2)

    def test_a_broken_clause_brings_nothing(self):
        clauses = [(-1, 2), (-1, -2), (-1,), (-1, 3)]
        self.fails(clauses, [1], [0, 1], 2)
        self.fails(clauses, [1], [0, 1], -2)
        self.fails(clauses, [1], [2], 1)
        self.fails(clauses, [1], [2], -1)
        self.fails(clauses, [1], [2, 0], 2)
        self.fails(clauses, [1], [0, 2], 2)
        self.shows(clauses, [1], [0, 3], 2)
        self.shows(clauses, [1], [1, 3], -2)

    def test_only_the_other_one_is_on(self):
        self.fails([(-1, 2)], [1], [0], -2)
        self.fails([(-1, -2)], [1], [0], 2)
        self.shows([(-1, -2)], [1], [0], -2)
        self.fails([], [1], [], -1)
        self.fails([], [-1], [], 1)
        self.fails([(-1, 2)], [1], [0], -1)

    def test_a_mark_of_no_clause(self):
        self.fails([(-1, 2)], [1], [0], 3)
        self.fails([(-1, 2)], [1], [0], -3)
        self.fails([(-1, 2)], [1], [], 2)

    def test_no_rows_show_each_put(self):
        for clauses in ([], CHAIN, [()], [(-1,)]):
            for put in (3, -1, 7, -MOST):
                self.shows(clauses, [3, -1, 7, -MOST], [], put)
                self.fails(clauses, [3, -1, 7, -MOST], [], -put)
            self.fails(clauses, [3, -1, 7, -MOST], [], 2)
            self.fails(clauses, [], [], 1)

    def test_rows_that_show_a_put(self):
        self.shows(CHAIN, [1], [0], 1)
        self.shows(CHAIN, [1, -9], [0, 1], -9)
        self.fails(CHAIN, [1, -9], [1], -9)

    def test_clauses_without_marks(self):
        self.fails([()], [1], [0], 1)
        self.fails([()], [], [0], 1)
        self.fails([(), (-1, 2)], [1], [0, 1], 2)
        self.fails([(), (-1, 2)], [1], [1, 0], 2)
        self.shows([(), (-1, 2)], [1], [1], 2)

    def test_long_clauses_and_chains(self):
        wide = tuple(range(1, 65))
        self.shows([wide], [-at for at in range(1, 64)], [0], 64)
        self.fails([wide], [-at for at in range(1, 63)], [0], 64)
        self.fails([wide], [-at for at in range(1, 65)], [0], 64)
        many = 20000
        clauses = [(-at, at + 1) for at in range(1, many + 1)]
        self.shows(clauses, [1], list(range(many)), many + 1)
        self.fails(clauses, [1], list(range(many - 1)), many + 1)
        self.fails(clauses, [1], list(range(1, many)), many + 1)


class TestNone(unittest.TestCase):

    def shows(self, clauses, puts, rows):
        self.assertIs(is_shown(clauses, puts, rows, None), True)

    def fails(self, clauses, puts, rows):
        self.assertIs(is_shown(clauses, puts, rows, None), False)

    def test_all_off_at_the_last_turn(self):
        self.shows([(-1,)], [1], [0])
        self.shows([(1,)], [-1], [0])
        self.shows([(-1, 2)], [1, -2], [0])
        self.shows([(-1, 2), (-1, -2)], [1], [0, 1])
        self.shows([(-1, 2), (-1, -2)], [1], [1, 0])
        self.shows([(5,), (-5,)], [], [0, 1])
        self.shows([(5,), (-5,)], [], [1, 0])

    def test_a_chain(self):
        self.shows(CHAIN, [1], [0, 1, 2, 3])
        self.shows(CHAIN, [1], [0, 1, 3, 2])
        self.shows(CHAIN, [1], [0, 3, 1, 2])

    def test_a_row_left_out(self):
        for rows in ([0, 1, 2], [0, 1, 3], [0, 2, 3], [1, 2, 3], [3], [0, 3]):
            self.fails(CHAIN, [1], rows)

    def test_a_row_twice(self):
        for at in range(5):
            for row in range(4):
                rows = [0, 1, 2, 3]
                rows.insert(at, row)
                self.fails(CHAIN, [1], rows)

    def test_rows_exchanged(self):
        clauses = [(-1, 2), (-2, 3), (-3, 4), (-4,)]
        for rows in itertools.permutations(range(4)):
            tell = self.shows if rows in ((0, 1, 2, 3), (0, 1, 3, 2), (0, 3, 1, 2), (0, 3, 2, 1),
                                          (3, 0, 1, 2), (3, 0, 2, 1), (3, 2, 0, 1), (3, 2, 1, 0)) else self.fails
            tell(clauses, [1], list(rows))

    def test_another_row(self):
        for at in range(4):
            for row in (-1, 0, 1, 2, 3, 4):
                rows = [0, 1, 2, 3]
                if rows[at] != row:
                    rows[at] = row
                    self.fails(CHAIN, [1], rows)

    def test_none_of_a_clause(self):
        self.fails([(-1,)], [1], [-1])
        self.fails([(-1,)], [1], [1])
        self.fails([(-1,)], [1], [-2])
        self.fails([(-1,)], [1], [10 ** 59])
        self.fails([(-1,)], [1], [-10 ** 59])
        self.fails([(), ()], [], [-1])
        self.fails([(), ()], [], [2])
        self.fails(CHAIN, [1], [-4, 1, 2, 3])
        self.fails(CHAIN, [1], [0, 1, 2, -1])
        self.fails(CHAIN, [1], [0, 1, 2, 4])
        self.fails([], [1], [0])
        self.fails([], [1], [-1])

    def test_the_last_row_does_nothing(self):
        clauses = [(-1, 2), (-1, 2), (3, 4), (-1, 3, 4), (1, 9)]
        for row in range(5):
            self.fails(clauses, [1], [row])
            self.fails(clauses, [1], [0, row])

    def test_the_last_row_has_one_left(self):
        self.fails([(-1, 2)], [1], [0])
        self.fails([(-1, 2, 3)], [1, -2], [0])
        self.fails([(-1, 2)], [1, 2], [0])

    def test_rows_behind_the_broken_one(self):
        self.fails([(-1,), (-1, 2)], [1], [0, 1])
        self.fails([(-1,), (-1,)], [1], [0, 1])
        self.fails([(-1,), (-1,)], [1], [0, 0])
        self.fails([(), (-1,)], [1], [0, 1])
        self.fails([(), (5,), (-5,)], [], [0, 1, 2])
        self.fails([(), (5,), (-5,)], [], [1, 0, 2])
        self.shows([(), (5,), (-5,)], [], [1, 2])

    def test_a_row_that_does_nothing_ahead(self):
        clauses = [(1, 2), (3, 4), (-1, 5), (-1,)]
        self.shows(clauses, [1], [3])
        self.shows(clauses, [1], [2, 3])
        self.fails(clauses, [1], [0, 3])
        self.fails(clauses, [1], [1, 3])
        self.fails(clauses, [1], [2, 2, 3])

    def test_no_rows_never(self):
        for clauses in ([], [()], [(-1,)], CHAIN):
            for puts in ([], [1], [-1, 2], [1, 2, 3, 4]):
                self.fails(clauses, puts, [])

    def test_clauses_without_marks(self):
        self.shows([()], [], [0])
        self.shows([()], [1, -2], [0])
        self.shows([(1, 2), ()], [1], [1])
        self.fails([(1, 2), ()], [1], [0, 1])
        self.shows([(-1, 2), ()], [1], [0, 1])
        self.fails([(), ()], [], [0, 1])
        self.shows([(), ()], [], [1])

    def test_long_clauses_and_chains(self):
        wide = tuple(range(1, 65))
        self.shows([wide], [-at for at in range(1, 65)], [0])
        self.fails([wide], [-at for at in range(1, 64)], [0])
        many = 20000
        clauses = [(-at, at + 1) for at in range(1, many + 1)] + [(-many - 1,)]
        self.shows(clauses, [1], list(range(many + 1)))
        self.fails(clauses, [1], list(range(many)))
        self.fails(clauses, [1], list(range(1, many + 1)))


class TestBoth(unittest.TestCase):

    def test_what_is_handed_in_stays(self):
        for rows in ([], [0], [0, 1, 2], [0, 1, 2, 3], [1, 0], [0, -1], [9], [0, 0]):
            for mark in (1, 2, 4, -4, None):
                handed = (copy.deepcopy(CHAIN), [1, -7], list(rows))
                is_shown(*handed, mark)
                self.assertEqual(handed, (CHAIN, [1, -7], rows))

    def test_asked_again(self):
        for mark in (4, None):
            for rows in ([0, 1, 2], [0, 1, 2, 3]):
                first = is_shown(CHAIN, [1], rows, mark)
                self.assertIs(is_shown(CHAIN, [1], rows, mark), first)

    def test_all_small_ones(self):
        marks = [1, -1, 2, -2, 3, -3]
        lists = [
            CHAIN[:3], [(-1, 2), (-2, 3), (-2, -3)], [(1,), (-1, 2), (-2,)], [(), (1, 2), (-1, 3)],
            [(1, 2, 3), (-1,), (2,)], [(3,), (3,), (-3, 1, 2)], [(1, -2), (2, -1), (1, 2)],
        ]
        puts_lists = [[], [1], [-1], [2], [-3], [1, 2], [1, -3], [-1, -2], [-1, -2, -3], [2, -3, 1]]
        for clauses in lists:
            all_rows = [list(rows) for many in range(4) for rows in itertools.product(range(-1, 4), repeat=many)]
            for puts, rows, mark in itertools.product(puts_lists, all_rows, marks + [None]):
                told = is_shown(clauses, puts, rows, mark)
                if told is not told_slowly(clauses, puts, rows, mark):
                    self.fail(f"{clauses} {puts} {rows} {mark}: {told}")


if __name__ == "__main__":
    unittest.main()
