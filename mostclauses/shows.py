"""Steps by clauses, and rows of clauses that show what follows by them."""


def is_shown(clauses, puts, rows, mark):
    """Whether rows show a mark from puts; where mark is None, that it is broken."""
    on = {put: True for put in puts}
    if mark is None:
        return len(rows) > 0 and _bring_all(clauses, rows[:-1], on) and _is_broken(clauses, rows[-1], on)
    return _bring_all(clauses, rows, on) and mark in on


def _bring_all(clauses, rows, on):
    """Go through rows, and put what they bring into on; told is whether each brings a mark."""
    for row in rows:
        if not _is_number_of(clauses, row):
            return False
        left = _left_of(clauses[row], on)
        if len(left) != 1 or left[0] in on:
            return False
        on[left[0]] = True
    return True


def _is_broken(clauses, row, on):
    """Whether row is the number of a clause of which all marks are off."""
    return _is_number_of(clauses, row) and len(_left_of(clauses[row], on)) == 0


def _is_number_of(clauses, row):
    """Whether a whole number is one of a clause."""
    # Python would count a number below nought from the end.
    return 0 <= row < len(clauses)


def _left_of(clause, on):
    """The marks of a clause that aren't off."""
    return [mark for mark in clause if -mark not in on]
