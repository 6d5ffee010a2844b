"""Parts and plans, asked of anything, and their texts [9]."""

import itertools
import unittest

from mostclauses.errors import NoText
from mostclauses.plans import is_part, is_plan, read_plan, show_plan, size_of

SIXTY_FIGURES = 10 ** 60 - 1


def deep(many, inner=1, word="sums"):
    """So many tuples within one another, around what is inner."""
    for _ in range(many):
        inner = (word, inner)
    return inner


def wide(many, word="sums"):
    return (word, *[1] * many)


def shared(many, word="sums"):
    """A tuple that has the same one twice, and so on, so many deep."""
    thing = 1
    for _ in range(many):
        thing = (word, thing, thing)
    return thing


def right_deep(many):
    """A row of so many ones, each tuple but the last one the last part of another."""
    thing = 1
    for _ in range(many - 1):
        thing = ("net", 1, thing)
    return thing


def tuples_in(part):
    """How many tuples stand within one another in a part."""
    return 0 if part == 1 else 1 + max(tuples_in(one) for one in part[1:])


PARTS = [
    1, ("sums", 1), ("sums", 1, 1), ("sums", 1, 1, 1), ("net", 1, 1), ("sums", ("sums", 1)), ("net", ("sums", 1), 1),
    ("net", ("net", 1, 1), ("sums", 1, 1, 1)), ("sums", ("net", 1, 1), 1, ("sums", ("net", 1, ("sums", 1)), 1)),
    wide(2), wide(59), wide(60), deep(59), deep(60), shared(1), shared(5), shared(5, "net"), right_deep(60),
    ("sums", wide(30), wide(30)), ("net", wide(1), wide(59)), deep(58, ("net", 1, 1)), deep(59, wide(60)),
    deep(58, ("sums", wide(30), wide(30))), ("sums", deep(59), 1), ("sums", 1, deep(59)),
]

NO_PARTS = [
    True, False, None, 0, 2, -1, 60, SIXTY_FIGURES, -SIXTY_FIGURES, "", "1", "sums", "sums(1 1)", "net", [], [1],
    ["sums", 1], ["net", 1, 1], (), (1,), (1, 1), ("sums",), ("net",), ("net", 1), ("net", 1, 1, 1), ("pairs", 1),
    ("codes", 1, 1), ("sum", 1), ("Sums", 1), ("nets", 1, 1), ("sums ", 1), ("", 1), (None, 1), (True, 1),
    (("sums",), 1), (["sums"], 1), ("sums", True), ("sums", 1, True), ("sums", True, 1), ("net", 1, True),
    ("net", True, 1), ("sums", 0), ("sums", 1, 2), ("sums", -1), ("sums", None), ("sums", "1"), ("sums", [1]),
    ("sums", ()), ("sums", 1, ()), ("sums", (1,)), ("sums", ["sums", 1]), ("sums", ("pairs", 1)), ("sums", "sums", 1),
    ("sums", ("codes", 1), 1), ("net", ("sums",), 1), ("net", 1, ("net", 1)), ("net", 1, ("net", 1, 1, 1)),
    ("sums", SIXTY_FIGURES), ("sums", 1, ("sums", 1, ("sums", 1, ("sums", 1, 2)))),
    wide(61), wide(62), wide(100), wide(100000), deep(61), deep(62), deep(99), deep(100), shared(6), shared(7),
    shared(60), shared(98), shared(99), shared(60, "net"), right_deep(61), right_deep(62), right_deep(90),
    ("sums", wide(30), wide(31)), ("net", wide(2), wide(59)), deep(59, ("net", wide(2), 1)), deep(60, ("net", 1, 1)),
    deep(60, wide(60)), ("sums", deep(60), 1), ("sums", 1, deep(60)), deep(58, ("sums", wide(30), wide(31))),
    ("sums", 1, wide(60)), ("sums", wide(60), 1), deep(99, None), deep(50, True), deep(50, ()), deep(50, ("net", 1)),
]


class TestIsPart(unittest.TestCase):

    def test_parts(self):
        for at, thing in enumerate(PARTS):
            with self.subTest(at=at):
                self.assertIs(is_part(thing), True)

    def test_no_parts(self):
        for at, thing in enumerate(NO_PARTS):
            with self.subTest(at=at):
                self.assertIs(is_part(thing), False)

    def test_sixty_ones_at_the_most(self):
        for many in range(1, 130):
            self.assertIs(is_part(wide(many)), many <= 60)
            self.assertIs(is_part(("sums", wide(many), wide(7))), many <= 53)
            self.assertIs(is_part(("net", wide(7), wide(many))), many <= 53)

    def test_sixty_tuples_at_the_most(self):
        for many in range(1, 101):
            self.assertIs(is_part(deep(many)), many <= 60)
            self.assertIs(is_part(("net", 1, deep(many))), many <= 59)
            self.assertIs(is_part(("net", deep(many), deep(many))), many <= 59)

    def test_a_hundred_deep_of_anything(self):
        for kinds in ((tuple,), (list,), (tuple, list)):
            thing = 1
            for at in range(99):
                thing = kinds[at % len(kinds)]([thing])
            for asked in (thing, ("sums", thing), (thing, 1), ["sums", thing]):
                self.assertIs(is_part(asked), False)
                self.assertIs(is_plan(asked), False)
                self.assertIs(is_plan(("pairs", asked)), False)


class TestIsPlan(unittest.TestCase):

    def test_of_parts(self):
        for word in ("pairs", "codes"):
            for at, thing in enumerate(PARTS):
                fits = tuples_in(thing) <= 59
                with self.subTest(word=word, at=at):
                    self.assertIs(is_plan((word, thing)), fits)
                    self.assertIs(is_plan(thing), False)

    def test_of_no_parts(self):
        for word in ("pairs", "codes"):
            for at, thing in enumerate(NO_PARTS):
                with self.subTest(word=word, at=at):
                    self.assertIs(is_plan((word, thing)), False)
                    self.assertIs(is_plan((word, 1, thing)), False)
                    self.assertIs(is_plan((word, thing, 1)), False)

    def test_plans(self):
        for plan in [("pairs", 1), ("codes", 1), ("pairs", 1, 1, 1), ("codes", ("sums", 1, 1), ("net", 1, 1), 1),
                     ("pairs", ("net", 1, 1)), wide(60, "pairs"), wide(60, "codes"), ("pairs", deep(59)),
                     ("codes", deep(59), deep(59)), ("pairs", wide(59), 1), ("pairs", wide(30), wide(30))]:
            with self.subTest(plan=plan):
                self.assertIs(is_plan(plan), True)
                self.assertIs(is_part(plan), False)

    def test_no_plans(self):
        for thing in [None, True, 0, 1, 2, SIXTY_FIGURES, "", "pairs", "pairs(1)", [], (), ["pairs", 1], ("pairs",),
                      ("codes",), ("pair", 1), ("Pairs", 1), (1, 1), (None, 1), (("pairs",), 1), (["pairs"], 1),
                      ("pairs", True), ("pairs", 1, True), ("codes", 1, 2), ("pairs", ("pairs", 1)),
                      ("pairs", 1, ("codes", 1)), ("codes", ("codes", 1)), ("pairs", [1]), ("pairs", ("net", 1)),
                      ("pairs", ("net", 1, 1, 1)), ("pairs", ()), ("pairs", "1"), ("pairs", (1, 1)),
                      wide(61, "pairs"), wide(61, "codes"), wide(100000, "pairs"), ("pairs", deep(60)),
                      ("codes", 1, deep(60)), ("pairs", wide(60), 1), ("pairs", wide(30), wide(31)), shared(50, "pairs"),
                      ("pairs", shared(99)), ("codes", shared(6))]:
            self.assertIs(is_plan(thing), False)

    def test_sixty_at_the_most(self):
        for word in ("pairs", "codes"):
            for many in range(1, 101):
                self.assertIs(is_plan(wide(many, word)), many <= 60)
                self.assertIs(is_plan((word, wide(7), wide(many))), many <= 53)
                self.assertIs(is_plan((word, deep(many))), many <= 59)
                self.assertIs(is_plan((word, 1, deep(many), 1)), many <= 59)

    def test_asked_again_and_not_changed(self):
        for thing in [["sums", [1, 2]], ("sums", [1]), ("pairs", [1, ["net"]])]:
            before = repr(thing)
            self.assertIs(is_part(thing), is_part(thing))
            self.assertIs(is_plan(thing), is_plan(thing))
            self.assertEqual(repr(thing), before)


class TestSizeOf(unittest.TestCase):

    def test_sizes(self):
        for thing, size in [(1, 1), (("sums", 1), 1), (("sums", 1, 1), 2), (("net", 1, ("sums", 1, 1, 1)), 4),
                            (("pairs", 1), 1), (("codes", 1, 1), 2), (("pairs", ("net", 1, 1), ("sums", 1, 1, 1)), 5),
                            (wide(60), 60), (wide(60, "codes"), 60), (deep(60), 1), (shared(5), 32),
                            (right_deep(60), 60), (("pairs", right_deep(59)), 59)]:
            with self.subTest(thing=thing):
                self.assertEqual(size_of(thing), size)


def small_things(many):
    """All parts of so many ones, of sums of one to three parts and nets, not more than three deep, nor of one alone."""
    if many == 1:
        return [1]
    found = []
    for first in range(1, many):
        for one, other in itertools.product(small_things(first), small_things(many - first)):
            found += [("sums", one, other), ("net", one, other)]
    return found + [wide(many)] * (many > 2)


TEXTS = [
    (1, "1"),
    (("sums", 1), "sums(1)"),
    (("sums", 1, 1), "sums(1 1)"),
    (("net", 1, 1), "net(1 1)"),
    (("net", ("sums", 1, 1, 1), ("net", 1, ("sums", 1))), "net(sums(1 1 1) net(1 sums(1)))"),
    (("pairs", 1), "pairs(1)"),
    (("codes", 1, 1, 1), "codes(1 1 1)"),
    (("pairs", ("sums", 1, 1), ("net", 1, 1), 1), "pairs(sums(1 1) net(1 1) 1)"),
    (("codes", ("sums", ("sums", 1))), "codes(sums(sums(1)))"),
]

NO_TEXTS = [
    "", " ", "\n", "2", "0", "-1", "11", "01", "+1", "1 ", " 1", "1\n", "\n1", "1 1", "(1)", "()", "(", ")", "1)", "(1",
    "sums", "net", "pairs", "codes", "sums()", "pairs()", "sums( )", "sums(1", "sums 1)", "sums1", "sums(1))",
    "sums((1)", "sums((1))", "sums(1)1", "sums(1) 1", "1 sums(1)", "sums(1) ", " sums(1)", "sums( 1)", "sums(1 )",
    "sums(1  1)", "sums(11)", "sums(1,1)", "sums(1, 1)", "sums(1\n1)", "sums (1)", "sums(1)\n", "sums(2)", "sums(1 2)",
    "sums(0)", "sums(True)", "sums(1)sums(1)", "sums(1) sums(1)", "Sums(1)", "sum(1)", "SUMS(1)", "net(1)", "net()",
    "net(1 1 1)", "net(1 1", "nets(1 1)", "pairs(pairs(1))", "sums(pairs(1))", "sums(codes(1) 1)", "pairs(codes(1))",
    "pairs[1]", "pairs<1>", "pairs(1)(1)", "pairs(1 1))", "pairs((1 1)", "pairs(sums)", "pairs(sums())", "pairs(sums 1)",
    "pairs(1 sums(1)1)", "pairs(sums(1)sums(1))", "pairs(sums(1)1)", "pairs(1sums(1))", "tree", "row", "pairs 1",
    "pairs(1)pairs(1)", ")pairs(1)", ")(", "1(1)", "1(", "pairs(1(1))", "pairs(1", "pairs(", "pairs(()", "('pairs', 1)",
    "pairs(1 1 1) by 1", "1.0", "one", "pairs(~)", "pairs(1 )1", "net(1 (1))", "net(1 1 )", "net( 1 1)", "\npairs(1)",
]


class TestTexts(unittest.TestCase):

    def test_told(self):
        for thing, text in TEXTS:
            with self.subTest(text=text):
                self.assertEqual(show_plan(thing), text)
                self.assertEqual(read_plan(text), thing)

    def test_read_back(self):
        for many in range(1, 5):
            for part in small_things(many):
                for thing in (part, ("pairs", part), ("codes", part, 1), ("pairs", 1, part, part)):
                    told = read_plan(show_plan(thing))
                    self.assertEqual(told, thing)
                    self.assertIs(type(told), type(thing))

    def test_great_ones(self):
        for part in PARTS:
            self.assertEqual(read_plan(show_plan(part)), part)
        for plan in [wide(60, "pairs"), ("codes", deep(59)), ("pairs", right_deep(60)), ("pairs", deep(58, wide(60)))]:
            self.assertEqual(read_plan(show_plan(plan)), plan)
        self.assertEqual(show_plan(deep(60)), "sums(" * 60 + "1" + ")" * 60)

    def test_one_is_a_whole_number(self):
        self.assertIs(read_plan("1"), 1)
        self.assertIs(read_plan("pairs(1)")[1], 1)

    def test_of_none(self):
        for text in NO_TEXTS:
            with self.subTest(text=text):
                self.assertRaises(NoText, read_plan, text)

    def test_too_great(self):
        for text in ["sums(" * 61 + "1" + ")" * 61, "pairs(" + "sums(" * 60 + "1" + ")" * 61,
                     "sums(" + " ".join(["1"] * 61) + ")", "pairs(" + " ".join(["1"] * 61) + ")",
                     "pairs(1 sums(" + " ".join(["1"] * 60) + "))", "sums(" * 50000 + "1" + ")" * 50000, "(" * 100000,
                     "sums(" * 100000, ")" * 100000, "1 " * 100000, "sums(" + "1 " * 100000 + "1)", "pairs" * 10000]:
            self.assertRaises(NoText, read_plan, text)

    def test_one_sign_elsewhere(self):
        text = "pairs(sums(1 1) net(1 1) 1)"
        read_plan(text)
        for at in range(len(text)):
            for other in ("", " ", "(", ")", "\n", "2", "x"):
                if other != text[at]:
                    self.refuses_or_is_text(text[:at] + other + text[at + 1:])
                self.refuses_or_is_text(text[:at] + other + text[at:])

    def refuses_or_is_text(self, text):
        """That a text is refused, or is just that of what it is read as."""
        try:
            thing = read_plan(text)
        except NoText:
            return
        self.assertTrue(is_part(thing) or is_plan(thing))
        self.assertEqual(show_plan(thing), text)


if __name__ == "__main__":
    unittest.main()
