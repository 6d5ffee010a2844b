"""Choices of counts: how many there are, and all of them."""

from mostclauses.errors import TooMany

MOST_CHOICES = 3003


def ways(lens):
    """How many choices of counts there are, of each total from 0 to the sum of the lens."""
    many = [1]
    for length in lens:
        many = _with_one_more(many, length)
    return many


def how_many(lens, total):
    """How many choices of counts of these lens have this total."""
    many = ways(lens)
    if 0 <= total < len(many):
        return many[total]
    return 0


def choices(lens, total):
    """The rising list of the choices of counts of these lens that have this total."""
    many = how_many(lens, total)
    if many > MOST_CHOICES:
        raise TooMany(many)
    begun = []
    if many > 0:
        begun = [((), total)]
    behind = sum(lens)
    for length in lens:
        behind -= length
        # A beginning is only gone on with where the lens behind it can come to what is left.
        begun = [
            (counts + (count,), left - count)
            for counts, left in begun
            for count in range(max(0, left - behind), min(length, left) + 1)
        ]
    return [counts for counts, left in begun]


def _with_one_more(many, length):
    """How many there are of each total, where a len comes to those that many was told of."""
    told = []
    held = 0
    # Those of a total are all of the totals up to it, and down to it less the len.
    for total in range(len(many) + length):
        if total < len(many):
            held += many[total]
        if total > length:
            held -= many[total - length - 1]
        told.append(held)
    return told
