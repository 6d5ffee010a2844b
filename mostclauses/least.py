"""Least plans: those of the fewest clauses, of these one of the fewest names."""

from mostclauses.counts import how_many
from mostclauses.knots import net_sizes, sizes, sums_sizes


def least(many, most):
    """A least plan of so many marks, with how many names and clauses it makes."""
    cap = most + 1
    parts = _least_parts(many, cap)
    found = [_whole_plan("pairs", many, most)]
    if most == 1:
        found.append(_whole_plan("codes", many, most))
    for one in range(1, many // 2 + 1):
        other = many - one
        last = how_many([min(one, cap), min(other, cap)], cap)
        found.append(_joined("pairs", parts[one], parts[other], (0, last)))
    clauses, names, plan = _least_of(found)
    return (plan, names, clauses)


def _least_parts(many, cap):
    """Of each size below many a least part: how many clauses and names it makes, and it; at place 0 none."""
    parts = [None, (0, 0, 1)]
    for size in range(2, many):
        names, clauses = sums_sizes([1] * size, cap)
        found = [(clauses, names, ("sums",) + (1,) * size)]
        for one in range(1, size // 2 + 1):
            # What is joined of least parts is least: how long their rows are hangs on their sizes alone.
            other = size - one
            lens = [min(one, cap), min(other, cap)]
            found.append(_joined("sums", parts[one], parts[other], sums_sizes(lens, cap)))
            found.append(_joined("net", parts[one], parts[other], net_sizes(lens[0], lens[1], cap)))
        parts.append(_least_of(found))
    return parts


def _whole_plan(word, many, most):
    """A plan of ones, with how many clauses and names it makes."""
    plan = (word,) + (1,) * many
    names, clauses = sizes(plan, most)
    return (clauses, names, plan)


def _joined(word, one, other, own):
    """What is joined by a word of two parts, with how many clauses and names it makes, its own among them."""
    names, clauses = own
    return (one[0] + other[0] + clauses, one[1] + other[1] + names, (word, one[2], other[2]))


def _least_of(found):
    """One of the fewest clauses, of these one of the fewest names."""
    return min(found, key=lambda row: (row[0], row[1]))
