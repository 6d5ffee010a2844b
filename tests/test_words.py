"""Parts and plans by words [10]."""

import unittest

from mostclauses.errors import NoPlan
from mostclauses.plans import is_part, is_plan, read_plan, show_plan, size_of
from mostclauses.words import part_for, plan_for

PART_TEXTS = {
    "flat": ["1", "sums(1 1)", "sums(1 1 1)", "sums(1 1 1 1)", "sums(1 1 1 1 1)"],
    "row": ["1", "sums(1 1)", "sums(sums(1 1) 1)", "sums(sums(sums(1 1) 1) 1)", "sums(sums(sums(sums(1 1) 1) 1) 1)"],
    "tree": ["1", "sums(1 1)", "sums(sums(1 1) 1)", "sums(sums(1 1) sums(1 1))", "sums(sums(sums(1 1) 1) sums(1 1))"],
    "nets": ["1", "net(1 1)", "net(net(1 1) 1)", "net(net(1 1) net(1 1))", "net(net(net(1 1) 1) net(1 1))"],
    "groups": [
        "1", "sums(sums(1 1))", "sums(sums(1 1) 1)", "sums(sums(1 1) sums(1 1))", "sums(sums(1 1 1) sums(1 1))",
        "sums(sums(1 1 1) sums(1 1 1))", "sums(sums(1 1 1) sums(1 1 1) 1)", "sums(sums(1 1 1) sums(1 1 1) sums(1 1))",
        "sums(sums(1 1 1) sums(1 1 1) sums(1 1 1))", "sums(sums(1 1 1 1) sums(1 1 1 1) sums(1 1))",
    ],
}

PLAN_TEXTS = {
    "pairs": ["pairs(1)", "pairs(1 1)", "pairs(1 1 1)", "pairs(1 1 1 1)"],
    "codes": ["codes(1)", "codes(1 1)", "codes(1 1 1)", "codes(1 1 1 1)"],
    "row": ["pairs(1)", "pairs(1 1)", "pairs(sums(1 1) 1)", "pairs(sums(sums(1 1) 1) 1)"],
    "tree": ["pairs(1)", "pairs(1 1)", "pairs(sums(1 1) 1)", "pairs(sums(1 1) sums(1 1))"],
    "nets": ["pairs(1)", "pairs(1 1)", "pairs(net(1 1) 1)", "pairs(net(1 1) net(1 1))"],
    "groups": ["pairs(1)", "pairs(sums(1 1))", "pairs(sums(1 1) 1)", "pairs(sums(1 1) sums(1 1))"],
}


def outermost(plan):
    return plan[1:]


class TestPartFor(unittest.TestCase):

    def test_small(self):
        for word, texts in PART_TEXTS.items():
            for at, text in enumerate(texts):
                with self.subTest(word=word, many=at + 1):
                    self.assertEqual(show_plan(part_for(word, at + 1)), text)

    def test_all(self):
        for word in PART_TEXTS:
            for many in range(1, 61):
                with self.subTest(word=word, many=many):
                    part = part_for(word, many)
                    self.assertIs(is_part(part), True)
                    self.assertEqual(size_of(part), many)
                    self.assertEqual(read_plan(show_plan(part)), part)

    def test_by_the_one_ahead(self):
        for many in range(2, 61):
            half = many // 2
            self.assertEqual(part_for("flat", many), ("sums",) + (1,) * many)
            self.assertEqual(part_for("row", many), ("sums", part_for("row", many - 1), 1))
            self.assertEqual(part_for("tree", many), ("sums", part_for("tree", many - half), part_for("tree", half)))
            self.assertEqual(part_for("nets", many), ("net", part_for("nets", many - half), part_for("nets", half)))

    def test_groups(self):
        for many in range(2, 61):
            part = part_for("groups", many)
            size = min(size for size in range(1, 9) if size * size >= many)
            left = many % size
            self.assertEqual(part, ("sums",) + (part_for("flat", size),) * (many // size)
                             + (part_for("flat", left),) * (left > 0))

    def test_one_is_a_whole_number(self):
        for word in PART_TEXTS:
            self.assertIs(part_for(word, 1), 1)

    def test_other_words(self):
        for word in ("pairs", "codes", "", "Flat", "net", "sums", "trees", "flat ", " row", "group", "bits", "1", "least"):
            for many in (1, 2, 7, 60):
                with self.subTest(word=word, many=many):
                    self.assertRaises(NoPlan, part_for, word, many)

    def test_somewhat_beyond(self):
        for word in PART_TEXTS:
            self.assertEqual(size_of(part_for(word, 61)), 61)
            self.assertEqual(size_of(part_for(word, 65)), 65)
            part_for(word, 0)


class TestPlanFor(unittest.TestCase):

    def test_small(self):
        for word, texts in PLAN_TEXTS.items():
            for at, text in enumerate(texts):
                with self.subTest(word=word, many=at + 1):
                    self.assertEqual(show_plan(plan_for(word, at + 1)), text)

    def test_all(self):
        for word in PLAN_TEXTS:
            for many in range(1, 61):
                with self.subTest(word=word, many=many):
                    plan = plan_for(word, many)
                    self.assertIs(is_plan(plan), True)
                    self.assertEqual(size_of(plan), many)
                    self.assertEqual(read_plan(show_plan(plan)), plan)

    def test_of_ones(self):
        for many in range(1, 61):
            self.assertEqual(plan_for("pairs", many), ("pairs",) + (1,) * many)
            self.assertEqual(plan_for("codes", many), ("codes",) + (1,) * many)

    def test_pairs_in_the_place_of_the_outermost(self):
        for word in ("row", "tree", "nets", "groups"):
            self.assertEqual(plan_for(word, 1), ("pairs", 1))
            for many in range(2, 61):
                plan = plan_for(word, many)
                self.assertEqual(plan[0], "pairs")
                self.assertEqual(outermost(plan), outermost(part_for(word, many)))

    def test_other_words(self):
        for word in ("flat", "", "Pairs", "net", "sums", "trees", "pairs ", " row", "group", "bits", "1", "code", "least"):
            for many in (1, 2, 7, 60):
                with self.subTest(word=word, many=many):
                    self.assertRaises(NoPlan, plan_for, word, many)

    def test_somewhat_beyond(self):
        for word in PLAN_TEXTS:
            self.assertEqual(size_of(plan_for(word, 61)), 61)
            plan_for(word, 0)


if __name__ == "__main__":
    unittest.main()
