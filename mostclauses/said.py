"""At most so many of marks, said by clauses by a plan."""

from mostclauses.errors import NoMarks, NoPlan
from mostclauses.knots import knots_of, sizes
from mostclauses.plans import is_plan, show_plan, size_of
from mostclauses.settings import are_marks, first_new, meant, on_of, refuse_too_many, rows_to_broken
from mostclauses.settings import show_marks, what_follows


class Said:
    """At most MOST of these marks are on, said by the clauses of a plan."""

    def __init__(self, marks, most, plan, *, fresh=None):
        if not are_marks(marks):
            raise NoMarks()
        if not _is_plan_for(plan, len(marks), most):
            raise NoPlan()
        first = first_new(marks, fresh)
        refuse_too_many(sizes(plan, most)[1])
        self._marks = list(marks)
        self._most = most
        self._plan = plan
        self._first = first
        self._knots = knots_of(plan, self._marks, most, first)
        self._names = [named for _, names, _, _ in self._knots for named in names]
        self._clauses = [clause for _, _, clauses, _ in self._knots for clause in clauses]

    def marks(self):
        """The marks, in order."""
        return list(self._marks)

    def most(self):
        """How many of the marks may be on."""
        return self._most

    def plan(self):
        """The plan by which it is said."""
        return self._plan

    def clauses(self):
        """The clauses of all knots, in order."""
        return list(self._clauses)

    def knots(self):
        """The knots of the plan, its own last."""
        return list(self._knots)

    def names(self):
        """The rising list of the new names, each with its meaning."""
        return list(self._names)

    def kept(self, on):
        """The marks of the new names by their meanings, where at most MOST are on, else None."""
        on_now = on_of(self._marks, on)
        if len(on_now) > self._most:
            return None
        return meant(self._marks, self._names, on_now)

    def broken(self, on):
        """Rows that show by those that are on alone that it is broken, where more are on, else None."""
        on_now = on_of(self._marks, on)
        if len(on_now) <= self._most:
            return None
        return rows_to_broken(self._clauses, on_now)

    def follows(self, puts):
        """What comes on or off at once of the marks that aren't put, with rows; None where it is broken."""
        return what_follows(self._clauses, puts, self._marks)

    def __eq__(self, other):
        if not isinstance(other, Said):
            return NotImplemented
        if self._marks != other._marks or self._most != other._most:
            return False
        return self._plan == other._plan and self._first == other._first

    def __len__(self):
        return len(self._clauses)

    def __str__(self):
        return f"at most {self._most} of {show_marks(self._marks)} by {show_plan(self._plan)}"


def _is_plan_for(plan, many, most):
    """Whether a thing is a plan of so many marks, and may say this MOST."""
    if not is_plan(plan) or size_of(plan) != many:
        return False
    return plan[0] != "codes" or most == 1
