"""Texts of clauses and of desks."""

from mostclauses.desk import Desk
from mostclauses.errors import IsPut, IsRule, NoBound, NoMarks, NoPlan, NoText, TooMany
from mostclauses.marks import is_clause
from mostclauses.settings import show_marks

LETTERS = "abcdefghijklmnopqrstuvwxyz"
FIGURES = "0123456789"
LONGEST_WORD = 8
MOST_FIGURES = 13
GREATEST_BOUND = 60


def show_clauses(clauses):
    """The text of clauses, a row for each."""
    return "\n".join([show_marks(clause) if clause else "none" for clause in clauses])


def read_clauses(text):
    """The clauses whose text this is."""
    clauses = [_clause_in(row) for row in _rows_in(text)]
    if not all([is_clause(clause) for clause in clauses]) or show_clauses(clauses) != text:
        raise NoText()
    return clauses


def show_desk(desk):
    """The text of a desk's rules and wishes, a row for each."""
    rows = []
    for word, marks, least, most, way in desk.rules():
        rows.append(f"rule {word} {least} {most} {way} {show_marks(marks)}")
    return "\n".join(rows + [f"wish {mark}" for mark in desk.wishes()])


def read_desk(text):
    """A desk that was told just what this is the text of."""
    desk = Desk()
    for row in _rows_in(text):
        try:
            _tell(desk, row.split(" "))
        except (IsRule, NoMarks, NoBound, NoPlan, TooMany, IsPut):
            raise NoText()
    # Numbers, and the order of the rows, were read loosely.
    if show_desk(desk) != text:
        raise NoText()
    return desk


def _tell(desk, words):
    """Tell a desk what the words of a row say."""
    if words[0] == "rule" and len(words) >= 5:
        _, word, low, high, way, *marks = words
        least = _number_in(low)
        most = _number_in(high)
        if not _is_rule_word(word) or not _is_bound(least) or not _is_bound(most):
            raise NoText()
        desk.rule(word, [_number_in(mark) for mark in marks], least, most, way=way)
    elif words[0] == "wish" and len(words) == 2:
        desk.wish(_number_in(words[1]))
    else:
        raise NoText()


def _is_rule_word(word):
    """Whether a word is one of a rule: one to eight small letters."""
    return 1 <= len(word) <= LONGEST_WORD and all([letter in LETTERS for letter in word])


def _is_bound(number):
    """Whether a number that was read may be a LEAST or a MOST."""
    return number is not None and 0 <= number <= GREATEST_BOUND


def _rows_in(text):
    """The rows of a text, of the empty one none."""
    if text == "":
        return []
    return text.split("\n")


def _clause_in(row):
    """The clause whose row this may be; where a word of it is no number, it is no clause."""
    if row == "none":
        return ()
    return tuple([_number_in(word) for word in row.split(" ")])


def _number_in(word):
    """The number that a word may be the text of, None where it is of no number that is asked for anywhere."""
    figures = word[1:] if word.startswith("-") else word
    if not 1 <= len(figures) <= MOST_FIGURES or not all([figure in FIGURES for figure in figures]):
        return None
    return int(word)
