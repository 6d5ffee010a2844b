"""Parts and plans: what is one, and their texts."""

from mostclauses.errors import NoText
from mostclauses.marks import is_whole

MOST_ONES = 60
MOST_TUPLES = 60


def is_part(thing):
    """Whether a thing is a part."""
    return _are_parts((thing,), 0)


def is_plan(thing):
    """Whether a thing is a plan."""
    if not isinstance(thing, tuple) or len(thing) < 2:
        return False
    return thing[0] in ("pairs", "codes") and _are_parts(thing[1:], 1)


def size_of(part):
    """How many ones a part, or a plan, has."""
    ones = 0
    waiting = [part]
    while waiting:
        thing = waiting.pop()
        if isinstance(thing, tuple):
            waiting.extend(thing[1:])
        else:
            ones += 1
    return ones


def show_plan(part):
    """The text of a part, or of a plan."""
    if not isinstance(part, tuple):
        return "1"
    inner = " ".join([show_plan(one) for one in part[1:]])
    return f"{part[0]}({inner})"


def read_plan(text):
    """The part or the plan whose text this is."""
    thing = _first_in(text)
    if is_part(thing) or is_plan(thing):
        # Blanks and brackets were read loosely.
        if show_plan(thing) == text:
            return thing
    raise NoText()


def _are_parts(things, around):
    """Whether things are parts, that stand within so many tuples, and have not too many ones together."""
    ones = 0
    waiting = [(thing, around) for thing in things]
    while waiting:
        # Each that waits has a one at least, or is no part; so even what is wide and deep is looked at in few steps.
        if ones + len(waiting) > MOST_ONES:
            return False
        thing, outer = waiting.pop()
        if is_whole(thing) and thing == 1:
            ones += 1
        elif outer < MOST_TUPLES and _is_joined(thing):
            waiting.extend([(part, outer + 1) for part in thing[1:]])
        else:
            return False
    return True


def _is_joined(thing):
    """Whether a thing is a tuple as those of parts are, without a look at what is in it."""
    if not isinstance(thing, tuple) or len(thing) < 2:
        return False
    return thing[0] == "sums" or (thing[0] == "net" and len(thing) == 3)


def _first_in(text):
    """What a text may be the text of: the first thing in it, None where there is none."""
    opened = [[]]
    for word in text.replace("(", "( ").replace(")", " ) ").split():
        if word.endswith("("):
            opened.append([word[:-1]])
        elif word == ")" and len(opened) > 1:
            inner = tuple(opened.pop())
            opened[-1].append(inner)
        elif word == "1":
            opened[-1].append(1)
        else:
            return None
    if not opened[0]:
        return None
    return opened[0][0]
