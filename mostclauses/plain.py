"""A bound said without new names: whether clauses say it, and settings that show how many are needed."""

from mostclauses.counts import choices

# Sets of many things are kept as whole numbers here: the digit at place k says whether the thing numbered k is in it.


def first_unlike(marks, most, clauses):
    """The marks that are on in a setting in which clauses don't say the bound, None where they say it plainly."""
    having = _settings_having(marks)
    held = _settings_at_most(len(marks), len(marks))
    for clause in clauses:
        holds = 0
        for mark in clause:
            holds = holds | having[mark]
        held = held & holds
    unlike = held ^ _settings_at_most(len(marks), most)
    if unlike == 0:
        return None
    setting = unlike.bit_length() - 1
    return [mark for place, mark in enumerate(marks) if setting >> place & 1 == 1]


def apart(marks, most):
    """Settings that are apart, as many as there are clauses by the plan of pairs."""
    found = choices([1] * len(marks), most + 1)
    return [[mark for mark, count in zip(marks, counts) if count == 1] for counts in found]


def are_apart(marks, most, settings):
    """Whether in each setting more than MOST marks are on, and in any two of them at most MOST in both."""
    having = {mark: 0 for mark in marks}
    for number, setting in enumerate(settings):
        for mark in setting:
            having[mark] += 1 << number
    every = (1 << len(settings)) - 1
    for number, setting in enumerate(settings):
        # That it is the only one says also that it has more than MOST on itself.
        if _having_more([having[mark] for mark in setting], most, every) != 1 << number:
            return False
    return True


def _settings_having(marks):
    """Of each of the marks, and of its other one, the settings in which it is on; a setting's digits are the marks."""
    having = {}
    many = 1
    for mark in marks:
        # The settings so far, this mark off, and behind them the same ones, it on.
        having = {one: settings | (settings << many) for one, settings in having.items()}
        having[-mark] = (1 << many) - 1
        having[mark] = having[-mark] << many
        many = many * 2
    return having


def _settings_at_most(size, most):
    """The settings of so many marks in which at most MOST are on."""
    exactly = [1]
    many = 1
    for _ in range(size):
        exactly = [off | (on << many) for off, on in zip(exactly + [0], [0] + exactly)]
        many = many * 2
    # No setting is in two of these.
    return sum(exactly[:most + 1])


def _having_more(owners, most, every):
    """Those that own more than MOST of some marks; owners has of each of these those that own it."""
    # At place k those that own at least k of the marks so far.
    reached = [every] + [0] * (most + 1)
    for owning in owners:
        reached = [every] + [here | (below & owning) for below, here in zip(reached, reached[1:])]
    return reached[-1]
