"""A looker at knots, whoever made them: each by itself, over the counts of its rows."""

from mostclauses.errors import NoKnot, TooMany
from mostclauses.follower import Follower
from mostclauses.marks import is_clause, is_mark
from mostclauses.settings import meant, on_behind

MOST_COUNTS = 256


class Stock:
    """What isn't used yet, of the marks and of the outs of knots; and all names that are there."""

    def __init__(self, marks):
        self._free_marks = {mark: True for mark in marks}
        # Each with how many marks are under it.
        self._free_outs = []
        self._there = {abs(mark): True for mark in marks}

    def takes(self, knot, most, is_last):
        """Whether a knot is built rightly upon those ahead of it; where it is, it is among them from now on."""
        rows, names, clauses, outs = knot
        under = 0
        for row in rows:
            many = self._use(row)
            if many == 0:
                return False
            under += many
        known = {abs(mark): True for row in rows for mark in row}
        if len(known) < sum([len(row) for row in rows]) or not self._take_names(names, known):
            return False
        if not all([_is_of(clause, known) for clause in clauses]) or not _is_of(outs, known):
            return False
        if is_last:
            return not (outs or self._free_marks or self._free_outs)
        self._free_outs.append((outs, under))
        return len(outs) == min(most + 1, under)

    def _use(self, row):
        """Use a row; told is how many marks are under it, 0 where it is none that may be used."""
        if len(row) == 1 and row[0] in self._free_marks:
            del self._free_marks[row[0]]
            return 1
        places = [place for place, (outs, _) in enumerate(self._free_outs) if outs == row]
        if not places:
            return 0
        _, under = self._free_outs.pop(places[0])
        return under

    def _take_names(self, names, known):
        """Take in the new names, into known, too; told is whether each is new and means only what is known."""
        for name, meaning in names:
            if name in self._there or not all([_is_of(marks, known) for marks in meaning]):
                return False
            self._there[name] = True
            known[name] = True
        return True


def is_knot(thing):
    """Whether a thing is a knot."""
    if not isinstance(thing, tuple) or len(thing) != 4:
        return False
    rows, names, clauses, outs = thing
    if not isinstance(rows, tuple) or not isinstance(names, tuple) or not isinstance(clauses, tuple):
        return False
    if len(rows) == 0 or not all([_are_marks(row) and len(row) > 0 for row in rows]):
        return False
    if not all([_is_named(named) for named in names]):
        return False
    return all([is_clause(clause) for clause in clauses]) and _are_marks(outs)


def first_wrong(marks, most, knots):
    """What is wrong first: None, or (number, "built"), or (number, word, counts)."""
    for number, knot in enumerate(knots):
        if not is_knot(knot):
            raise NoKnot(number)
    stock = Stock(marks)
    for number, knot in enumerate(knots):
        is_last = number == len(knots) - 1
        if not stock.takes(knot, most, is_last):
            return (number, "built")
        wrong = _wrong_counts(knot, most, is_last)
        if wrong is not None:
            word, counts = wrong
            return (number, word, counts)
    return None


def _are_marks(thing):
    """Whether a thing is a tuple of marks."""
    return isinstance(thing, tuple) and all([is_mark(mark) for mark in thing])


def _is_named(thing):
    """Whether a thing is a name with a meaning."""
    if not isinstance(thing, tuple) or len(thing) != 2:
        return False
    name, meaning = thing
    if not is_mark(name) or name < 0 or not isinstance(meaning, tuple):
        return False
    return all([_are_marks(marks) for marks in meaning])


def _is_of(marks, known):
    """Whether all names of these marks are known."""
    return all([abs(mark) in known for mark in marks])


def _wrong_counts(knot, most, is_last):
    """The word and the counts of what is wrong first in a knot that is built rightly, None where nothing is."""
    rows, _, clauses, _ = knot
    follower = Follower(clauses)
    for counts in _all_counts(rows):
        total = sum(counts)
        on = [mark for row, count in zip(rows, counts) for mark in row[:count]]
        # This comes first: where all clauses hold and the outs count rightly, what is put further on breaks nothing.
        if not _holds(knot, on, total, most, is_last):
            return ("holds", counts)
        if not _is_up(knot, follower, on, total, most, is_last):
            return ("up", counts)
        if not _is_down(knot, follower, on, counts, most, is_last):
            return ("down", counts)
    return None


def _all_counts(rows):
    """The rising list of all choices of counts of rows, of whatever total."""
    many = 1
    for row in rows:
        many *= len(row) + 1
    if many > MOST_COUNTS:
        raise TooMany(many)
    found = [()]
    for row in rows:
        found = [counts + (count,) for counts in found for count in range(len(row) + 1)]
    return found


def _holds(knot, on, total, most, is_last):
    """Whether all clauses hold, and the outs count rightly, where just these marks of the rows are on."""
    rows, names, clauses, outs = knot
    if is_last and total > most:
        return True
    marks = [mark for row in rows for mark in row]
    put = {mark: True for mark in on}
    state = {mark: True for mark in meant(marks, names, on)}
    for mark in marks:
        if mark in put:
            state[mark] = True
        else:
            state[-mark] = True
    if not all([any([mark in state for mark in clause]) for clause in clauses]):
        return False
    return all([(out in state) == (place < total) for place, out in enumerate(outs)])


def _is_up(knot, follower, on, total, most, is_last):
    """Whether, by these marks alone, the outs up to the total are on at once; of the last knot, it is broken."""
    _, _, _, outs = knot
    if is_last and total <= most:
        return True
    now = on_behind(follower, on)
    if is_last:
        return now is None
    return all([out in now for out in outs[:total]])


def _is_down(knot, follower, on, counts, most, is_last):
    """Whether, by these marks and the out behind the total off, the next mark of each row is off at once."""
    rows, _, _, outs = knot
    total = sum(counts)
    puts = list(on)
    if is_last:
        if total != most:
            return True
    elif total >= len(outs):
        return True
    else:
        puts.append(-outs[total])
    now = on_behind(follower, puts)
    return all([-row[count] in now for row, count in zip(rows, counts) if count < len(row)])
