"""At most so many of marks, said by sums of bits; and gaps."""

from itertools import combinations

from mostclauses.counts import how_many
from mostclauses.errors import NoMarks, TooMany
from mostclauses.follower import Follower
from mostclauses.marks import others
from mostclauses.settings import are_marks, first_new, meant, on_behind, on_of, rows_to_broken, show_marks
from mostclauses.settings import what_follows, whole_setting

MOST_GAPS = 256


class Adding:
    """Marks that are added up: the new names and the clauses of all sums and carries, and each column's one mark."""

    def __init__(self, marks, first):
        self._first = first
        self.named = []
        self.said = []
        self.bits = []
        column = list(marks)
        while column:
            carries = []
            while len(column) > 1:
                taken = column[:3]
                column = column[3:] + [self._name(_sum_tuples(taken))]
                carries.append(self._name(_carry_tuples(taken)))
            self.bits.append(column[0])
            column = carries

    def _name(self, tuples):
        """A new name more, by the tuples of marks by which it is on, and those by which it is off."""
        by_on, by_off = tuples
        name = self._first + len(self.named)
        self.named.append((name, tuple(by_on)))
        self.said.extend([others(marks) + (name,) for marks in by_on])
        self.said.extend([others(marks) + (-name,) for marks in by_off])
        return name


class Added:
    """At most MOST of these marks are on, said by the bits of how many are."""

    def __init__(self, marks, most, *, fresh=None):
        if not are_marks(marks):
            raise NoMarks()
        self._marks = list(marks)
        self._most = most
        self._first = first_new(marks, fresh)
        adding = Adding(marks, self._first)
        self._names = list(adding.named)
        self._clauses = adding.said + _last_clauses(adding.bits, most)

    def marks(self):
        """The marks, in order."""
        return list(self._marks)

    def most(self):
        """How many of the marks may be on."""
        return self._most

    def clauses(self):
        """The clauses of all sums and carries, the last ones behind."""
        return list(self._clauses)

    def names(self):
        """The rising list of the new names, each with its meaning."""
        return list(self._names)

    def kept(self, on):
        """The marks of the new names by their meanings, where at most MOST are on, else None."""
        on_now = on_of(self._marks, on)
        if len(on_now) > self._most:
            return None
        return meant(self._marks, self._names, on_now)

    def broken(self, on):
        """Rows that show by all marks, on or off, that it is broken, where more than MOST are on, else None."""
        if len(on_of(self._marks, on)) <= self._most:
            return None
        return rows_to_broken(self._clauses, whole_setting(self._marks, on))

    def follows(self, puts):
        """What comes on or off at once of the marks that aren't put, with rows; None where it is broken."""
        return what_follows(self._clauses, puts, self._marks)

    def __eq__(self, other):
        if not isinstance(other, Added):
            return NotImplemented
        return self._marks == other._marks and self._most == other._most and self._first == other._first

    def __len__(self):
        return len(self._clauses)

    def __str__(self):
        return f"at most {self._most} of {show_marks(self._marks)} by bits"


def gap(said):
    """The first choice of MOST marks by which another isn't off at once, and that one; None where there is none."""
    marks = said.marks()
    most = said.most()
    if most >= len(marks):
        return None
    many = how_many([1] * len(marks), most)
    if many > MOST_GAPS:
        raise TooMany(many)
    return _first_gap(said.clauses(), marks, most)


def _sum_tuples(marks):
    """The tuples of two or three marks by which their sum is on, and those by which it is off."""
    if len(marks) == 2:
        a, b = marks
        return ([(a, -b), (-a, b)], [(-a, -b), (a, b)])
    a, b, c = marks
    by_on = [(a, -b, -c), (-a, b, -c), (-a, -b, c), (a, b, c)]
    by_off = [(-a, -b, -c), (a, b, -c), (a, -b, c), (-a, b, c)]
    return (by_on, by_off)


def _carry_tuples(marks):
    """The tuples of two or three marks by which their carry is on, and those by which it is off."""
    if len(marks) == 2:
        a, b = marks
        return ([(a, b)], [(-a,), (-b,)])
    a, b, c = marks
    by_on = [(a, b), (a, c), (b, c)]
    return (by_on, [others(both) for both in by_on])


def _last_clauses(bits, most):
    """The clauses that bar each number above MOST, of numbers by these bits, the lowest first."""
    if most.bit_length() > len(bits):
        return []
    clauses = []
    for place, bit in enumerate(bits):
        if most >> place & 1 == 0:
            higher = [one for at, one in enumerate(bits) if at > place and most >> at & 1 == 1]
            clauses.append(others([bit] + higher))
    return clauses


def _first_gap(clauses, marks, most):
    """The first choice of so many marks, with the first of the others that isn't off at once by them."""
    follower = Follower(clauses)
    for chosen in combinations(marks, most):
        now = on_behind(follower, chosen)
        left = [mark for mark in marks if mark not in chosen and -mark not in now]
        if left:
            return (list(chosen), left[0])
    return None
