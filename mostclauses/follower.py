"""What follows at once of marks that are put on, by clauses."""

from mostclauses.errors import IsBroken, IsPut, NoPut, NotOn


class Follower:
    """Clauses, the marks that are put on, and what follows at once of these."""

    def __init__(self, clauses):
        self._clauses = []
        # Of each clause, how many of its marks are off.
        self._offs = []
        # Of each mark, the numbers of the clauses that have it.
        self._having = {}
        # The marks that are on, in the order in which they came; of each its place there, and its row (of a put None).
        self._trail = []
        self._place = {}
        self._rows = []
        self._puts = []
        self._is_put = {}
        # Of each put, how many marks were on ahead of it, and how many clauses these were closed under.
        self._ahead = []
        self._broken_row = None
        for clause in clauses:
            self._take_in(clause)
        self._settle(list(range(len(self._clauses))))

    def put(self, mark):
        """Put a mark on; told is what else comes on by it, None where it is broken by it."""
        self._refuse_broken()
        if mark in self._is_put or -mark in self._is_put:
            raise IsPut(abs(mark))
        ahead = len(self._trail)
        self._puts.append(mark)
        self._is_put[mark] = True
        self._ahead.append((ahead, len(self._clauses)))
        if -mark in self._place:
            # The row that brought the other one on has no mark left now.
            self._broken_row = self._row_of(-mark)
        elif mark not in self._place:
            self._settle(self._bring(mark, None))
        return self._news(ahead + 1)

    def add(self, clause):
        """Add a clause behind the others; told is what comes on by it, None where it is broken by it."""
        self._refuse_broken()
        ahead = len(self._trail)
        self._take_in(clause)
        self._settle([len(self._clauses) - 1])
        return self._news(ahead)

    def back(self):
        """Take the last put back; told is its mark."""
        if not self._puts:
            raise NoPut()
        mark = self._puts.pop()
        del self._is_put[mark]
        many_on, many_clauses = self._ahead.pop()
        while len(self._trail) > many_on:
            self._take_off_last()
        self._broken_row = None
        # The marks that stay were closed under the clauses of then, not yet under those added since.
        self._settle(list(range(many_clauses, len(self._clauses))))
        return mark

    def on(self):
        """The rising list of all that is on."""
        self._refuse_broken()
        return sorted(self._trail, key=abs)

    def shown(self, mark):
        """Rows that show a mark from the puts, of None that it is broken."""
        if mark is None:
            if self._broken_row is None:
                raise NotOn(None)
            offs = self._clauses[self._broken_row]
            return self._rows_to([-off for off in offs]) + [self._broken_row]
        self._refuse_broken()
        if mark not in self._place:
            raise NotOn(mark)
        return self._rows_to([mark])

    def puts(self):
        """The marks that are put on, in order."""
        return list(self._puts)

    def is_broken(self):
        """Whether it is broken."""
        return self._broken_row is not None

    def clauses(self):
        """All clauses, those that were added too."""
        return list(self._clauses)

    def _refuse_broken(self):
        if self._broken_row is not None:
            raise IsBroken()

    def _row_of(self, mark):
        """The row that brought on a mark that is on."""
        return self._rows[self._place[mark]]

    def _take_in(self, clause):
        """Keep a clause, without a look at what it brings."""
        number = len(self._clauses)
        self._clauses.append(clause)
        self._offs.append(len([mark for mark in clause if -mark in self._place]))
        for mark in clause:
            self._having.setdefault(mark, []).append(number)

    def _bring(self, mark, row):
        """Set a mark on by a row; told are the rows that may bring a mark, or be broken, by it."""
        self._place[mark] = len(self._trail)
        self._trail.append(mark)
        self._rows.append(row)
        ready = []
        for number in self._having.get(-mark, []):
            self._offs[number] += 1
            if self._is_ready(number):
                ready.append(number)
        return ready

    def _take_off_last(self):
        """Undo the last mark that was brought."""
        mark = self._trail.pop()
        self._rows.pop()
        del self._place[mark]
        for number in self._having.get(-mark, []):
            self._offs[number] -= 1

    def _is_ready(self, number):
        """Whether at most one mark of this clause isn't off."""
        return self._offs[number] >= len(self._clauses[number]) - 1

    def _settle(self, numbers):
        """Take steps, from clauses of these numbers on, until there is none or one is broken."""
        waiting = list(numbers)
        at = 0
        while at < len(waiting):
            number = waiting[at]
            at += 1
            if self._is_ready(number):
                left = [mark for mark in self._clauses[number] if -mark not in self._place]
                if not left:
                    self._broken_row = number
                    return
                if left[0] not in self._place:
                    waiting.extend(self._bring(left[0], number))

    def _news(self, ahead):
        """The rising list of the marks that are on from this place on, None where it is broken."""
        if self._broken_row is not None:
            return None
        return sorted(self._trail[ahead:], key=abs)

    def _rows_to(self, marks):
        """The rows that bring these marks on, in the order in which they did, those of puts left out."""
        needed = {}
        waiting = list(marks)
        while waiting:
            mark = waiting.pop()
            # A mark that is put needs no row, and one that was on ahead of its put must have none here.
            if mark not in self._is_put and self._place[mark] not in needed:
                needed[self._place[mark]] = True
                row = self._row_of(mark)
                waiting.extend([-off for off in self._clauses[row] if off != mark])
        return [self._rows[place] for place in sorted(needed)]
