"""Marks that something is said of, settings of them, and what clauses say of these."""

from mostclauses.errors import NoFresh, TooMany
from mostclauses.follower import Follower
from mostclauses.marks import is_mark

MOST_HANDED = 60
GREATEST_HANDED = 10 ** 9
MOST_CLAUSES = 3003


def are_marks(marks):
    """Whether these are 1 to 60 marks of unlike names that aren't too great."""
    if not 1 <= len(marks) <= MOST_HANDED:
        return False
    if not all([is_mark(mark) and abs(mark) <= GREATEST_HANDED for mark in marks]):
        return False
    return len({abs(mark) for mark in marks}) == len(marks)


def greatest_name(marks):
    """The greatest name of some marks."""
    return max([abs(mark) for mark in marks])


def first_new(marks, fresh):
    """The first new name: fresh, or where that is None the lowest that may be one."""
    lowest = greatest_name(marks) + 1
    if fresh is None:
        return lowest
    if fresh < lowest:
        raise NoFresh(lowest)
    return fresh


def refuse_too_many(clauses):
    """Refuse so many clauses where they are too many."""
    if clauses > MOST_CLAUSES:
        raise TooMany(clauses)


def show_marks(marks):
    """The marks as a text, a blank between."""
    return " ".join([str(mark) for mark in marks])


def on_of(marks, on):
    """Those of the marks that are on, in order."""
    told = {mark: True for mark in on}
    return [mark for mark in marks if mark in told]


def whole_setting(marks, on):
    """Of each of the marks, in order, it or its other one, as it is where just those of a list are on."""
    told = {mark: True for mark in on}
    return [mark if mark in told else -mark for mark in marks]


def meant(marks, names, on):
    """The marks of new names, each on or off by its meaning, where of the marks just those of a list are on."""
    state = {-mark: True for mark in marks}
    for mark in on:
        del state[-mark]
        state[mark] = True
    told = []
    for name, meaning in names:
        mark = -name
        if any([all([one in state for one in both]) for both in meaning]):
            mark = name
        state[mark] = True
        told.append(mark)
    return told


def rows_to_broken(clauses, puts):
    """Rows that show from puts that it is broken, None where it isn't."""
    follower = follower_of(clauses, puts)
    if follower.is_broken():
        return follower.shown(None)
    return None


def what_follows(clauses, puts, marks):
    """Of each of the marks that isn't put and comes on or off at once, what is on and rows; None where it is broken."""
    follower = follower_of(clauses, puts)
    if follower.is_broken():
        return None
    put = {abs(mark): True for mark in puts}
    on = {mark: True for mark in follower.on()}
    told = []
    for mark in marks:
        if abs(mark) not in put:
            told.extend([(side, follower.shown(side)) for side in (mark, -mark) if side in on])
    return told


def follower_of(clauses, puts):
    """A follower of these clauses and puts; where it is broken it needn't have all clauses."""
    # All puts come first: rows are to show from all of them, and a follower that is broken takes no more.
    follower = Follower([])
    for mark in puts:
        follower.put(mark)
    for clause in clauses:
        if not follower.is_broken():
            follower.add(clause)
    return follower


def on_behind(follower, puts):
    """All that is on by these puts more, None where it is broken; behind it the follower is as it was."""
    ahead = len(follower.puts())
    for mark in puts:
        if not follower.is_broken():
            follower.put(mark)
    now = None
    if not follower.is_broken():
        now = {mark: True for mark in follower.on()}
    while len(follower.puts()) > ahead:
        follower.back()
    return now
