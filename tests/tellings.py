"""What tests of several files share: plans to look at, and slow second tellings."""

import itertools


def small_parts(many):
    """Parts of so many ones: those of sums of ones, of two parts and of nets, and some of one part alone."""
    if many == 1:
        return [1, ("sums", 1)]
    found = [("sums",) + (1,) * many, ("sums", ("sums",) + (1,) * many)]
    for first in range(1, many):
        for one, other in itertools.product(small_parts(first), small_parts(many - first)):
            if ("sums", 1) not in (one, other) or many < 4:
                found += [("sums", one, other), ("net", one, other)]
    return found


def small_plans(many):
    """Plans of so many ones, by pairs and by codes."""
    rows = [(part,) for part in small_parts(many)]
    for first in range(1, many):
        rows += itertools.product(small_parts(first), small_parts(many - first)[:6])
    rows.append((1,) * many)
    return [(word, *row) for row in dict.fromkeys(rows) for word in ("pairs", "codes")]


def part_by_chance(chance, many, deep):
    """Any part of so many ones, with not more than so many tuples within one another."""
    if many == 1 and (deep == 0 or chance.random() < 0.9):
        return 1
    if deep == 1 or many == 1:
        return ("sums",) + (1,) * many
    if chance.random() < 0.4:
        first = chance.randrange(1, many)
        return ("net", part_by_chance(chance, first, deep - 1), part_by_chance(chance, many - first, deep - 1))
    return ("sums", *row_by_chance(chance, many, deep))


def row_by_chance(chance, many, deep):
    """Some parts that have so many ones together."""
    parts = []
    left = many
    while left > 0:
        size = chance.randrange(1, left + 1)
        parts.append(part_by_chance(chance, size, deep - 1))
        left -= size
    return parts


def plan_by_chance(chance, many, word="pairs"):
    return (word, *row_by_chance(chance, many, chance.choice((2, 3, 6, 20))))


def choices_of(lens, total):
    """The rising choices of counts of these lens, by a look at each."""
    tuples = itertools.product(*[range(length + 1) for length in lens])
    return [counts for counts in tuples if sum(counts) == total]


def meaning_holds(meaning, on):
    return any(all(mark in on for mark in marks) for marks in meaning)


def lengthened(marks, names, on):
    """All marks that are on, of marks and new names, where of the marks just these are."""
    state = {mark if mark in on else -mark for mark in marks}
    for name, meaning in names:
        state.add(name if meaning_holds(meaning, state) else -name)
    return state


def all_hold(clauses, state):
    return all(any(mark in state for mark in clause) for clause in clauses)


def all_on(clauses, puts):
    """All that is on at once by these puts, by [5], None where it is broken."""
    on = set(puts)
    while True:
        before = len(on)
        for clause in clauses:
            left = [mark for mark in clause if -mark not in on]
            if not left:
                return None
            if len(left) == 1:
                on.add(left[0])
        if len(on) == before:
            return on


def rows_show_broken(clauses, puts, rows):
    """Whether rows show that it is broken, by [6], gone through one by one."""
    on = set(puts)
    for at, row in enumerate(rows):
        if row < 0 or row >= len(clauses):
            return False
        left = [mark for mark in clauses[row] if -mark not in on]
        if at == len(rows) - 1:
            return left == []
        if len(left) != 1 or left[0] in on:
            return False
        on.add(left[0])
    return False


def is_whole(thing):
    return type(thing) is int


def paper_holds(clauses, puts, thing):
    """Whether a thing is a paper, by [31], by a walk of its own."""
    waiting = [(list(puts), thing)]
    while waiting:
        here, paper = waiting.pop()
        if type(paper) is not tuple:
            return False
        if all(is_whole(one) for one in paper):
            if not rows_show_broken(clauses, here, paper):
                return False
            continue
        if len(paper) != 3 or not is_whole(paper[0]) or not 1 <= paper[0] <= 10 ** 12:
            return False
        if {paper[0], -paper[0]} & set(here):
            return False
        waiting += [(here + [paper[0]], paper[1]), (here + [-paper[0]], paper[2])]
    return True
