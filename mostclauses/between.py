"""At least so many, and at most so many, of some marks are on."""

from mostclauses.errors import NoBound, NoMarks
from mostclauses.marks import others
from mostclauses.said import Said
from mostclauses.settings import are_marks, first_new, on_of, rows_to_broken, what_follows, whole_setting
from mostclauses.words import plan_for


class Between:
    """At least LEAST and at most MOST of these marks are on, said by the plan of a word."""

    def __init__(self, marks, least, most, *, way="tree", fresh=None):
        if not are_marks(marks):
            raise NoMarks()
        if least > most or least > len(marks):
            raise NoBound(least, most)
        plan = plan_for(way, len(marks))
        self._marks = list(marks)
        self._least = least
        self._most = most
        self._on_said = Said(self._marks, most, plan, fresh=fresh)
        behind = first_new(marks, fresh) + len(self._on_said.names())
        self._off_said = Said(list(others(marks)), len(marks) - least, plan, fresh=behind)

    def marks(self):
        """The marks, in order."""
        return list(self._marks)

    def least(self):
        """How many of the marks must be on."""
        return self._least

    def most(self):
        """How many of the marks may be on."""
        return self._most

    def clauses(self):
        """The clauses that say how many may be on, and behind them those that say how many may be off."""
        return self._on_said.clauses() + self._off_said.clauses()

    def names(self):
        """The rising list of the new names, each with its meaning."""
        return self._on_said.names() + self._off_said.names()

    def kept(self, on):
        """The marks of the new names by their meanings, where neither too many nor too few are on, else None."""
        both = whole_setting(self._marks, on)
        by_on = self._on_said.kept(both)
        by_off = self._off_said.kept(both)
        if by_on is None or by_off is None:
            return None
        return by_on + by_off

    def broken(self, on):
        """Rows that show by all marks, on or off, that it is broken, where too many or too few are on, else None."""
        if self._least <= len(on_of(self._marks, on)) <= self._most:
            return None
        return rows_to_broken(self.clauses(), whole_setting(self._marks, on))

    def follows(self, puts):
        """What comes on or off at once of the marks that aren't put, with rows; None where it is broken."""
        return what_follows(self.clauses(), puts, self._marks)
