"""The refusals, each made of its fields alone."""


class NoMarks(ValueError):
    """These are no marks for what was asked."""

    def __init__(self):
        ValueError.__init__(self, "no such marks")


class NoPlan(ValueError):
    """This is no plan, or no part, for what was asked."""

    def __init__(self):
        ValueError.__init__(self, "no such plan")


class NoText(ValueError):
    """This is the text of nothing."""

    def __init__(self):
        ValueError.__init__(self, "the text of nothing")


class NoKnot(ValueError):
    """What stands at this number is no knot."""

    def __init__(self, number):
        ValueError.__init__(self, f"no knot at {number}")
        self.number = number


class NoFresh(ValueError):
    """The first new name is too low; lowest would do."""

    def __init__(self, lowest):
        ValueError.__init__(self, f"new names begin with {lowest} or above")
        self.lowest = lowest


class NoBound(ValueError):
    """No number of marks is at least low and at most high."""

    def __init__(self, low, high):
        ValueError.__init__(self, f"no bound: at least {low}, at most {high}")
        self.low = low
        self.high = high


class NoGrow(ValueError):
    """A part with a net in it can't grow."""

    def __init__(self):
        ValueError.__init__(self, "a net doesn't grow")


class NotWider(ValueError):
    """The present cap is as great already."""

    def __init__(self, cap):
        ValueError.__init__(self, f"not wider than {cap}")
        self.cap = cap


class TooFar(ValueError):
    """The bound is out of the cap's reach."""

    def __init__(self, cap):
        ValueError.__init__(self, f"too far for the cap {cap}")
        self.cap = cap


class IsPut(KeyError):
    """A mark of this name is put already."""

    def __init__(self, name):
        KeyError.__init__(self, f"{name} is put already")
        self.name = name


class NotOn(KeyError):
    """This mark isn't on."""

    def __init__(self, mark):
        KeyError.__init__(self, f"{mark} isn't on")
        self.mark = mark


class IsRule(KeyError):
    """There is a rule of this word already."""

    def __init__(self, word):
        KeyError.__init__(self, f"{word} is a rule already")
        self.word = word


class NoRule(KeyError):
    """There is no rule of this word."""

    def __init__(self, word):
        KeyError.__init__(self, f"{word} is no rule")
        self.word = word


class TooMany(IndexError):
    """There would be so many, and these are too many."""

    def __init__(self, many):
        IndexError.__init__(self, f"too many: {many}")
        self.many = many


class NoPut(IndexError):
    """No put is there to be taken back."""

    def __init__(self):
        IndexError.__init__(self, "no put to take back")


class NoDeed(IndexError):
    """No deed is there to be taken back."""

    def __init__(self):
        IndexError.__init__(self, "no deed to take back")


class IsBroken(LookupError):
    """A clause is broken by what is put."""

    def __init__(self):
        LookupError.__init__(self, "it is broken")


class HasSome(LookupError):
    """There is a setting that keeps all."""

    def __init__(self):
        LookupError.__init__(self, "there is a setting that keeps all")
