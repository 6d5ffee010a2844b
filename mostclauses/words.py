"""Parts and plans by words, of many marks."""

from mostclauses.errors import NoPlan

PART_WORDS = ("flat", "row", "tree", "nets", "groups")
PLAN_WORDS = ("pairs", "codes", "row", "tree", "nets", "groups")


def part_for(word, many):
    """The part of so many marks by a word."""
    if word not in PART_WORDS:
        raise NoPlan()
    if word == "flat":
        return _flat(many)
    if word == "row":
        return _row(many)
    if word == "tree":
        return _halves("sums", many)
    if word == "nets":
        return _halves("net", many)
    return _groups(many)


def plan_for(word, many):
    """The plan of so many marks by a word."""
    if word not in PLAN_WORDS:
        raise NoPlan()
    if word == "codes":
        return ("codes", *_ones(many))
    if word == "pairs" or many <= 1:
        return ("pairs", *_ones(many))
    return ("pairs", *part_for(word, many)[1:])


def _ones(many):
    return (1,) * many


def _flat(many):
    if many <= 1:
        return 1
    return ("sums", *_ones(many))


def _row(many):
    part = 1
    for _ in range(many - 1):
        part = ("sums", part, 1)
    return part


def _halves(word, many):
    if many <= 1:
        return 1
    return (word, _halves(word, many - many // 2), _halves(word, many // 2))


def _groups(many):
    if many <= 1:
        return 1
    size = 1
    while size * size < many:
        size += 1
    parts = [_flat(min(size, many - start)) for start in range(0, many, size)]
    return ("sums", *parts)
