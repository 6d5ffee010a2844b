"""Knots: rows of marks joined by new names and clauses; and the knots of parts and plans."""

from mostclauses.counts import choices, how_many, ways
from mostclauses.marks import others


class Net:
    """The new names and clauses of a net, as they come."""

    def __init__(self, first):
        self._first = first
        self.named = []
        self.said = []

    def merged(self, one, other, many):
        """The merging of two tuples of marks, to so many."""
        if not one or not other or many == 0:
            return (one + other)[:many]
        if len(one) == 1 and len(other) == 1:
            return self._high_and_low(one[0], other[0], many)
        odd = self.merged(one[::2], other[::2], many // 2 + 1)
        even = self.merged(one[1::2], other[1::2], many // 2)
        outs = odd[:1]
        at = 0
        while len(outs) < many and (at + 1 < len(odd) or at < len(even)):
            outs = outs + self.merged(odd[at + 1:at + 2], even[at:at + 1], many - len(outs))
            at += 1
        return outs

    def _high_and_low(self, one, other, many):
        high = self._name(((one,), (other,)))
        self.said.append((-one, high))
        self.said.append((-other, high))
        if many == 1:
            return (high,)
        low = self._name(((one, other),))
        self.said.append((-one, -other, low))
        return (high, low)

    def _name(self, meaning):
        name = self._first + len(self.named)
        self.named.append((name, meaning))
        return name


class Knotter:
    """Makes the knots of parts, one part behind another."""

    def __init__(self, marks, cap, first):
        self._marks = list(marks)
        self._used = 0
        self._cap = cap
        self.fresh = first
        self.made = []

    def row_of(self, part):
        """The row of a part of the marks that come next."""
        if not isinstance(part, tuple):
            self._used += 1
            return (self._marks[self._used - 1],)
        rows = [self.row_of(one) for one in part[1:]]
        if part[0] == "net":
            return self.keep(net_knot(rows[0], rows[1], self._cap, self.fresh))
        return self.keep(sums_knot(rows, self._cap, self.fresh))

    def keep(self, knot):
        """Put a knot behind those that are made; told are its outs."""
        self.made.append(knot)
        self.fresh += len(knot[1])
        return knot[3]


def sums_knot(rows, cap, first):
    """The knot whose outs count the marks of all rows."""
    lens = [len(row) for row in rows]
    names = []
    clauses = []
    for total in range(1, min(cap, sum(lens)) + 1):
        name = first + total - 1
        meaning = counted(rows, total)
        names.append((name, meaning))
        clauses.extend(clauses_of_count(meaning, name))
    outs = tuple([name for name, _ in names])
    return (tuple(rows), tuple(names), tuple(clauses), outs)


def net_knot(one, other, cap, first):
    """The knot whose outs are the merging of two rows."""
    net = Net(first)
    outs = net.merged(one, other, cap)
    return ((one, other), tuple(net.named), tuple(net.said), outs)


def pairs_knot(rows, most):
    """The last knot that bars each choice of counts above MOST."""
    clauses = [others(marks) for marks in counted(rows, most + 1)]
    return (tuple(rows), (), tuple(clauses), ())


def codes_knot(rows, first):
    """The last knot of MOST 1 that gives each row a code of its own."""
    clauses = [(-row[1],) for row in rows if len(row) > 1]
    places = range((len(rows) - 1).bit_length())
    names = []
    for place in places:
        meaning = tuple([(row[0],) for number, row in enumerate(rows) if _has_digit(number, place)])
        names.append((first + place, meaning))
    for number, row in enumerate(rows):
        for place in places:
            name = first + place
            if _has_digit(number, place):
                clauses.append((-row[0], name))
            else:
                clauses.append((-row[0], -name))
    return (tuple(rows), tuple(names), tuple(clauses), ())


def counted(rows, total):
    """The marks of all choices of counts of rows, of one total; what a name means that says it is reached."""
    lens = [len(row) for row in rows]
    return tuple([_marks_at(rows, counts) for counts in choices(lens, total)])


def clauses_of_count(meaning, name):
    """The clauses by which each choice of a count's meaning brings on its name."""
    return [others(marks) + (name,) for marks in meaning]


def knots_of(plan, marks, most, first):
    """The knots of a plan, its own last."""
    knotter = Knotter(marks, _cap_of(plan, most), first)
    rows = [knotter.row_of(part) for part in plan[1:]]
    if plan[0] == "codes":
        knotter.keep(codes_knot(rows, knotter.fresh))
    else:
        knotter.keep(pairs_knot(rows, most))
    return list(knotter.made)


def sizes(plan, most):
    """How many new names, and how many clauses, a plan makes: counted, not made."""
    parts = [_part_sizes(part, _cap_of(plan, most)) for part in plan[1:]]
    lens = [length for length, _, _ in parts]
    names = sum([made for _, made, _ in parts])
    clauses = sum([said for _, _, said in parts])
    if plan[0] != "codes":
        return (names, clauses + how_many(lens, most + 1))
    digits = (len(lens) - 1).bit_length()
    return (names + digits, clauses + lens.count(2) + len(lens) * digits)


def sums_sizes(lens, cap):
    """How many names and clauses the sums knot of rows of these lens makes."""
    outs = min(cap, sum(lens))
    return (outs, sum(ways(lens)[1:outs + 1]))


def net_sizes(one, other, cap):
    """How many names and clauses the net knot of rows of these two lens makes."""
    if one == 0 or other == 0 or cap == 0:
        return (0, 0)
    if one == 1 and other == 1:
        return _pair_sizes(1, cap)
    odd_names, odd_clauses = net_sizes(one - one // 2, other - other // 2, cap // 2 + 1)
    even_names, even_clauses = net_sizes(one // 2, other // 2, cap // 2)
    evens = one // 2 + other // 2
    odds = one + other - evens
    # The odd list's first is an out by itself; its others stand beside the even list's, as long as both have one.
    names, clauses = _pair_sizes(min(odds - 1, evens, cap // 2), cap - 1)
    return (odd_names + even_names + names, odd_clauses + even_clauses + clauses)


def _part_sizes(part, cap):
    """How long a part's row is, and how many new names and clauses it makes."""
    if not isinstance(part, tuple):
        return (1, 0, 0)
    parts = [_part_sizes(one, cap) for one in part[1:]]
    lens = [length for length, _, _ in parts]
    names = sum([made for _, made, _ in parts])
    clauses = sum([said for _, _, said in parts])
    if part[0] == "net":
        made, said = net_sizes(lens[0], lens[1], cap)
    else:
        made, said = sums_sizes(lens, cap)
    return (min(cap, sum(lens)), names + made, clauses + said)


def _pair_sizes(pairs, outs):
    """How many names and clauses so many pairs make by high and low, where so many outs are needed."""
    # Of the last pair high alone may be needed: a name and a clause less.
    less = max(0, 2 * pairs - outs)
    return (2 * pairs - less, 3 * pairs - less)


def _cap_of(plan, most):
    """The cap of a plan's rows; codes are of MOST 1 alone."""
    if plan[0] == "codes":
        return 2
    return most + 1


def _marks_at(rows, counts):
    """The marks of a choice of counts of rows."""
    return tuple([row[count - 1] for row, count in zip(rows, counts) if count > 0])


def _has_digit(number, place):
    """Whether a number has a 1 at this place of its binary digits."""
    return number >> place & 1 == 1
