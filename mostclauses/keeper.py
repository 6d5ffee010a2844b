"""A bound that changes, while the clauses that say it are only added to."""

from mostclauses.errors import NoDeed, NoGrow, NoMarks, NoPlan, NotWider, TooFar
from mostclauses.counts import ways
from mostclauses.knots import clauses_of_count, counted
from mostclauses.plans import is_part, size_of
from mostclauses.settings import MOST_HANDED, are_marks, first_new, greatest_name, meant, on_of, refuse_too_many
from mostclauses.settings import rows_to_broken, what_follows


class Growing:
    """A sums knot that is widened: what it counts, and its outs so far, those that were taken back too."""

    def __init__(self, inner):
        # Each is a mark, or one like this.
        self._inner = list(inner)
        self._sizes = [one.size if isinstance(one, Growing) else 1 for one in inner]
        self.size = sum(self._sizes)
        self.outs = []

    def lacking(self, cap):
        """How many clauses of this cap it lacks."""
        lens = [min(size, cap) for size in self._sizes]
        return sum(ways(lens)[len(self.outs) + 1:min(cap, self.size) + 1])

    def widen(self, cap, first):
        """Give it the names, from a first one on, and the clauses that it lacks of a cap; told are these."""
        rows = [tuple(one.outs[:cap]) if isinstance(one, Growing) else (one,) for one in self._inner]
        names = []
        clauses = []
        for total in range(len(self.outs) + 1, min(cap, self.size) + 1):
            name = first + len(names)
            meaning = counted(rows, total)
            names.append((name, meaning))
            clauses.extend(clauses_of_count(meaning, name))
            self.outs.append(name)
        return (names, clauses)


class Keeper:
    """At most so many of these marks are on; how many, and which marks, changes."""

    def __init__(self, marks, cap, part, *, fresh=None):
        if not are_marks(marks):
            raise NoMarks()
        if not isinstance(part, tuple) or not _is_part_of(part, marks):
            raise NoPlan()
        if _has_net(part):
            raise NoGrow()
        self._fresh = first_new(marks, fresh)
        self._marks = list(marks)
        self._cap = cap
        self._most = None
        # The knots that the present row is made of, in the order in which they were made; the last one has the row.
        self._knots = _growing_of(part, marks)
        self._names = []
        self._clauses = []
        # The names of all marks that were ever there.
        self._ever = {abs(mark): True for mark in marks}
        # Of each deed that isn't taken back, how all was ahead of it.
        self._deeds = []
        self._refuse_growth(self._knots, cap)
        self._grow(self._knots)

    def bound(self, most):
        """From now on at most so many are on, any number where it is None; told are the puts."""
        self._refuse_far(most, len(self._marks))
        self._remember()
        self._most = most
        return self.puts()

    def wider(self, cap):
        """Make the row ready for greater bounds; told are the clauses that are added."""
        if cap <= self._cap:
            raise NotWider(self._cap)
        self._refuse_growth(self._knots, cap)
        self._remember()
        self._cap = cap
        return self._grow(self._knots)

    def more(self, marks, part):
        """Count more marks in, by a part of their own; told are the clauses that are added."""
        if not self._are_more(marks):
            raise NoMarks()
        if not _is_part_of(part, marks):
            raise NoPlan()
        if _has_net(part):
            raise NoGrow()
        self._refuse_far(self._most, len(self._marks) + len(marks))
        knots = _growing_of(part, marks)
        # A part that is 1 makes no knot; its mark is its row.
        top = knots[-1] if knots else marks[0]
        knots = knots + [Growing([self._knots[-1], top])]
        self._refuse_growth(knots, self._cap)
        self._remember()
        self._marks = self._marks + list(marks)
        self._knots = self._knots + knots
        self._fresh = max(self._fresh, greatest_name(marks) + 1)
        for mark in marks:
            self._ever[abs(mark)] = True
        return self._grow(knots)

    def back(self):
        """Take the last deed back; clauses and names stay."""
        if not self._deeds:
            raise NoDeed()
        self._most, self._cap, self._marks, self._knots = self._deeds.pop()

    def marks(self):
        """The present marks, in order."""
        return list(self._marks)

    def reach(self):
        """The present cap."""
        return self._cap

    def most(self):
        """The present bound, None without one."""
        return self._most

    def puts(self):
        """What is to be put beside the clauses, so that they say the present bound."""
        if self._most is None or self._most >= len(self._marks):
            return []
        return [-self._knots[-1].outs[self._most]]

    def clauses(self):
        """All clauses that were ever added, in order."""
        return list(self._clauses)

    def names(self):
        """The rising list of all names that were ever made, each with its meaning."""
        return list(self._names)

    def kept(self, on):
        """The marks of all new names by their meanings, where the bound is kept, else None."""
        on_now = on_of(self._marks, on)
        if self._is_above(on_now):
            return None
        present = {abs(mark): True for mark in self._marks}
        # Their names are off.
        gone = [name for name in self._ever if name not in present]
        return meant(self._marks + gone, self._names, on_now)

    def broken(self, on):
        """Rows that show by those that are on, and the puts, that it is broken, where it is so, else None."""
        on_now = on_of(self._marks, on)
        if not self._is_above(on_now):
            return None
        return rows_to_broken(self._clauses, on_now + self.puts())

    def follows(self, puts):
        """What comes on or off at once of the marks that aren't put, with rows; None where it is broken."""
        return what_follows(self._clauses, list(puts) + self.puts(), self._marks)

    def _is_above(self, on):
        """Whether more marks are on than the bound lets be."""
        return self._most is not None and len(on) > self._most

    def _are_more(self, marks):
        """Whether these may be marks more."""
        if not are_marks(marks) or len(self._marks) + len(marks) > MOST_HANDED:
            return False
        taken = {abs(mark): True for mark in self._marks}
        taken.update({name: True for name, _ in self._names})
        return not any([abs(mark) in taken for mark in marks])

    def _refuse_far(self, most, many):
        """Refuse a bound that bounds so many marks, but is out of the cap's reach."""
        if most is not None and self._cap <= most < many:
            raise TooFar(self._cap)

    def _refuse_growth(self, knots, cap):
        """Refuse to give knots what they lack of a cap, where all clauses would be too many."""
        refuse_too_many(len(self._clauses) + sum([knot.lacking(cap) for knot in knots]))

    def _remember(self):
        self._deeds.append((self._most, self._cap, self._marks, self._knots))

    def _grow(self, knots):
        """Give knots what they lack of the present cap; told are the clauses that are added."""
        added = []
        for knot in knots:
            names, clauses = knot.widen(self._cap, self._fresh)
            self._fresh += len(names)
            self._names.extend(names)
            added.extend(clauses)
        self._clauses.extend(added)
        return added


def _is_part_of(part, marks):
    """Whether a thing is a part of as many marks."""
    return is_part(part) and size_of(part) == len(marks)


def _has_net(part):
    """Whether a net is in a part."""
    return isinstance(part, tuple) and (part[0] == "net" or any([_has_net(one) for one in part[1:]]))


def _growing_of(part, marks):
    """The knots of a part of these marks, in the order in which they are made, its own last; of a 1 none."""
    made = []
    _grown(part, list(marks), made)
    return made


def _grown(part, left, made):
    """What counts a part of the marks that are left: a mark, or a knot; it takes these away, and adds to those made."""
    if not isinstance(part, tuple):
        return left.pop(0)
    knot = Growing([_grown(one, left, made) for one in part[1:]])
    made.append(knot)
    return knot
