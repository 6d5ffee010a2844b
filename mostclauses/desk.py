"""A desk: rules and wishes, what follows of them, and settings that keep them all."""

from mostclauses.between import Between
from mostclauses.errors import HasSome, IsPut, IsRule, NoDeed, NoMarks, NoRule, NotOn, TooMany
from mostclauses.marks import is_mark
from mostclauses.papers import paper_of
from mostclauses.settings import are_marks, follower_of, greatest_name

GREATEST_ON_DESK = 100
MOST_NAMES = 8


class Desk:
    """Rules, each by a word, that bound how many of some marks are on, and marks that are wished on."""

    def __init__(self):
        self._rules = []
        self._wishes = []
        # Of each deed that isn't taken back, the rules and wishes ahead of it.
        self._deeds = []

    def rule(self, word, marks, least, most, *, way="tree"):
        """Put a rule behind the others."""
        if word in [rule[0] for rule in self._rules]:
            raise IsRule(word)
        if not are_marks(marks) or greatest_name(marks) > GREATEST_ON_DESK:
            raise NoMarks()
        told = (word, tuple(marks), least, most, way)
        # Made only so that it refuses what it refuses.
        _between(told, None)
        self._stand(self._rules + [told], self._wishes)

    def drop(self, word):
        """Take a rule away."""
        left = [rule for rule in self._rules if rule[0] != word]
        if len(left) == len(self._rules):
            raise NoRule(word)
        self._stand(left, self._wishes)

    def wish(self, mark):
        """Wish a mark on."""
        if not is_mark(mark) or abs(mark) > GREATEST_ON_DESK:
            raise NoMarks()
        if mark in self._wishes or -mark in self._wishes:
            raise IsPut(abs(mark))
        self._stand(self._rules, self._wishes + [mark])

    def unwish(self, mark):
        """Wish a mark no more."""
        if mark not in self._wishes:
            raise NotOn(mark)
        self._stand(self._rules, [wish for wish in self._wishes if wish != mark])

    def back(self):
        """Undo the last deed."""
        if not self._deeds:
            raise NoDeed()
        self._rules, self._wishes = self._deeds.pop()

    def rules(self):
        """The rules in order, each as it was told: (word, marks, least, most, way)."""
        return list(self._rules)

    def wishes(self):
        """The marks that are wished, in order."""
        return list(self._wishes)

    def clauses(self):
        """The clauses of all rules, in order."""
        clauses = []
        fresh = GREATEST_ON_DESK + 1
        for rule in self._rules:
            between = _between(rule, fresh)
            clauses.extend(between.clauses())
            fresh += len(between.names())
        return clauses

    def follows(self):
        """The rising list of the marks, wishes aside, that are on at once by the wishes; None where it is broken."""
        follower = self._follower()
        if follower.is_broken():
            return None
        return [mark for mark in follower.on() if abs(mark) <= GREATEST_ON_DESK and mark not in self._wishes]

    def why(self, mark):
        """Rows that show a mark from the wishes, of None that it is broken."""
        follower = self._follower()
        # A follower that is broken refuses marks otherwise.
        if follower.is_broken() and mark is not None:
            raise NotOn(mark)
        return follower.shown(mark)

    def find(self):
        """The rising list of marks of a setting that keeps all rules and wishes, None where there is none."""
        kept = self._kept()
        if not kept:
            return None
        return kept[0]

    def tally(self):
        """How many settings keep all rules and wishes."""
        return len(self._kept())

    def none(self):
        """A paper that shows that there is none."""
        if self.tally() > 0:
            raise HasSome()
        return paper_of(self._follower(), _names_of(self._rules, self._wishes))

    def _stand(self, rules, wishes):
        """Let these rules and wishes stand from now on, where their names aren't too many."""
        many = len(_names_of(rules, wishes))
        if many > MOST_NAMES:
            raise TooMany(many)
        self._deeds.append((self._rules, self._wishes))
        self._rules = rules
        self._wishes = wishes

    def _follower(self):
        return follower_of(self.clauses(), self._wishes)

    def _kept(self):
        """All settings that keep all, each the rising list of its marks."""
        settings = [[]]
        for name in _names_of(self._rules, self._wishes):
            sides = [mark for mark in (name, -name) if -mark not in self._wishes]
            settings = [setting + [mark] for setting in settings for mark in sides]
        return [setting for setting in settings if all([_is_kept(rule, setting) for rule in self._rules])]


def _between(rule, fresh):
    """What a rule says, its new names from fresh on."""
    _, marks, least, most, way = rule
    return Between(list(marks), least, most, way=way, fresh=fresh)


def _names_of(rules, wishes):
    """The rising list of the names of rules and wishes."""
    marks = wishes + [mark for rule in rules for mark in rule[1]]
    return sorted({abs(mark) for mark in marks})


def _is_kept(rule, setting):
    """Whether a rule is kept where just the marks of a setting are on."""
    _, marks, least, most, _ = rule
    return least <= len([mark for mark in marks if mark in setting]) <= most
