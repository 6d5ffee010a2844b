"""Papers: what shows, by looking at each name both ways, that no setting keeps all clauses."""

from mostclauses.marks import is_mark, is_whole
from mostclauses.shows import is_shown


def is_paper(clauses, puts, thing):
    """Whether a thing is a paper of clauses, from puts."""
    if not isinstance(thing, tuple):
        return False
    if all([is_whole(row) for row in thing]):
        return is_shown(clauses, puts, thing, None)
    if len(thing) != 3 or not is_mark(thing[0]):
        return False
    name, by_on, by_off = thing
    if name < 0 or name in puts or -name in puts:
        return False
    return is_paper(clauses, puts + [name], by_on) and is_paper(clauses, puts + [-name], by_off)


def paper_of(follower, names):
    """A paper from a follower's puts, where by each setting of these names it is broken; it is left as it was."""
    if follower.is_broken():
        return tuple(follower.shown(None))
    on = follower.on()
    name = [one for one in names if one not in on and -one not in on][0]
    papers = []
    for mark in (name, -name):
        follower.put(mark)
        papers.append(paper_of(follower, names))
        follower.back()
    return (name, papers[0], papers[1])
