"""Marks, and clauses of them."""

GREATEST_NAME = 10 ** 12
MOST_MARKS = 64


def is_whole(thing):
    """Whether a thing is a whole number."""
    return isinstance(thing, int) and not isinstance(thing, bool)


def is_mark(thing):
    """Whether a thing is a mark."""
    return is_whole(thing) and 1 <= abs(thing) <= GREATEST_NAME


def is_clause(thing):
    """Whether a thing is a clause."""
    if not isinstance(thing, tuple) or len(thing) > MOST_MARKS:
        return False
    # The marks come first: what is no mark may have no other sign.
    if not all([is_mark(mark) for mark in thing]):
        return False
    return len({abs(mark) for mark in thing}) == len(thing)


def others(marks):
    """The other ones of marks."""
    return tuple([-mark for mark in marks])
