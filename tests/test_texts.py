"""Texts of clauses and of desks [32]."""

import random
import unittest

from mostclauses.desk import Desk
from mostclauses.errors import NoDeed, NoText
from mostclauses.said import Said
from mostclauses.texts import read_clauses, read_desk, show_clauses, show_desk
from mostclauses.words import plan_for

GREATEST = 10 ** 12
SIGNS = "".join(chr(sign) for sign in range(32, 127) if chr(sign) != "%") + "\n"


def changed(chance, text):
    """A text, a sign or a piece of it changed."""
    at = chance.randrange(len(text) + 1)
    to = min(len(text), at + chance.randrange(3))
    put = chance.choice(("", " ", "\n", "-", "0", "1", "none", "wish ", chance.choice(SIGNS)))
    return text[:at] + put + text[to:]


class TestClauses(unittest.TestCase):

    def test_small(self):
        self.assertEqual(show_clauses([]), "")
        self.assertEqual(show_clauses([()]), "none")
        self.assertEqual(show_clauses([(1,)]), "1")
        self.assertEqual(show_clauses([(1, -2), (), (-GREATEST, 3)]), "1 -2\nnone\n-1000000000000 3")
        self.assertEqual(read_clauses(""), [])
        self.assertEqual(read_clauses("none"), [()])
        self.assertEqual(read_clauses("none\nnone"), [(), ()])
        self.assertEqual(read_clauses("1 -2\nnone\n-1000000000000 3"), [(1, -2), (), (-GREATEST, 3)])

    def test_read_back(self):
        chance = random.Random(32)
        for _ in range(500):
            clauses = []
            for _ in range(chance.randrange(6)):
                names = chance.sample(range(1, chance.choice((70, 10 ** 6, GREATEST))), chance.choice((0, 1, 2, 3, 20, 64)))
                clauses.append(tuple(name * chance.choice((1, -1)) for name in names))
            text = show_clauses(clauses)
            self.assertEqual(text, "\n".join(" ".join(map(str, clause)) if clause else "none" for clause in clauses))
            self.assertEqual(read_clauses(text), clauses)
        clauses = Said(list(range(1, 41)), 3, plan_for("tree", 40)).clauses()
        self.assertEqual(read_clauses(show_clauses(clauses)), clauses)

    def test_other_texts(self):
        for text in (
            " ", "\n", "1\n", "\n1", "1\n\n2", " 1", "1 ", "1  2", "0", "-0", "01", "-01", "+1", "1 1", "1 -1", "--1", "-", "- 1",
            "1,2", "1_0", "none ", " none", "None", "NONE", "none 1", "1 none", "nonenone", "none\n", "one", "1.0", "1e3", "0x1",
            "1000000000001", "-1000000000001", "9" * 60, "1" * 5000, "-" + "1" * 5000, " ".join(map(str, range(1, 66))),
            "1\t2", "(1, 2)", "true", "1 2\n3 3", "\n\n", "''",
        ):
            with self.subTest(text=text[:40]):
                self.assertRaises(NoText, read_clauses, text)
        self.assertEqual(len(read_clauses(" ".join(map(str, range(1, 65))))[0]), 64)

    def test_spoilt(self):
        chance = random.Random(33)
        told = 0
        for _ in range(3000):
            clauses = [tuple(chance.sample((1, -2, 3, 40, -51), chance.randrange(4))) for _ in range(chance.randrange(4))]
            text = changed(chance, show_clauses(clauses))
            try:
                read = read_clauses(text)
            except NoText:
                told += 1
                continue
            self.assertEqual(show_clauses(read), text)
            self.assertTrue(all(type(clause) is tuple and 0 not in clause for clause in read))
        self.assertGreater(told, 800)

    def test_new_and_not_changed(self):
        clauses = [(1, 2)]
        show_clauses(clauses)
        self.assertEqual(clauses, [(1, 2)])
        read_clauses("1 2").clear()
        self.assertEqual(read_clauses("1 2"), [(1, 2)])


def desk_by_chance(chance):
    desk = Desk()
    names = chance.sample(range(1, 101), chance.randrange(1, 9))
    for _ in range(chance.randrange(5)):
        marks = [name * chance.choice((1, -1)) for name in chance.sample(names, chance.randrange(1, len(names) + 1))]
        least = chance.randrange(len(marks) + 1)
        word = "".join(chance.choice("abyz") for _ in range(chance.randrange(1, 9)))
        if word not in [rule[0] for rule in desk.rules()]:
            desk.rule(word, marks, least, chance.choice((least, len(marks), 60)), way=chance.choice(("pairs", "row", "tree", "nets")))
    for name in chance.sample(names, chance.randrange(len(names) + 1)):
        desk.wish(name * chance.choice((1, -1)))
    return desk


class TestDesk(unittest.TestCase):

    def test_small(self):
        desk = Desk()
        self.assertEqual(show_desk(desk), "")
        desk.wish(-4)
        desk.rule("cups", [1, -20, 3], 1, 60)
        desk.rule("b", [7], 0, 1, way="codes")
        desk.wish(20)
        text = "rule cups 1 60 tree 1 -20 3\nrule b 0 1 codes 7\nwish -4\nwish 20"
        self.assertEqual(show_desk(desk), text)
        other = read_desk(text)
        self.assertIsInstance(other, Desk)
        self.assertEqual(other.rules(), desk.rules())
        self.assertEqual(other.wishes(), desk.wishes())
        self.assertEqual(read_desk("").rules(), [])
        self.assertRaises(NoDeed, read_desk("").back)

    def test_told_just_this(self):
        desk = read_desk("rule a 0 1 tree 1 2\nrule b 0 1 row 2 3\nwish 1\nwish 5")
        for text in (
            "rule a 0 1 tree 1 2\nrule b 0 1 row 2 3\nwish 1", "rule a 0 1 tree 1 2\nrule b 0 1 row 2 3",
            "rule a 0 1 tree 1 2", "",
        ):
            desk.back()
            self.assertEqual(show_desk(desk), text)
        self.assertRaises(NoDeed, desk.back)

    def test_read_back(self):
        chance = random.Random(34)
        for _ in range(300):
            desk = desk_by_chance(chance)
            for _ in range(chance.randrange(3)):
                if desk.wishes() or desk.rules():
                    desk.back()
            text = show_desk(desk)
            rows = [" ".join(map(str, ("rule", word, least, most, way) + marks)) for word, marks, least, most, way in desk.rules()]
            self.assertEqual(text, "\n".join(rows + [f"wish {mark}" for mark in desk.wishes()]))
            other = read_desk(text)
            self.assertEqual((other.rules(), other.wishes()), (desk.rules(), desk.wishes()))
            self.assertEqual(other.clauses(), desk.clauses())
            self.assertEqual(show_desk(other), text)

    def test_other_texts(self):
        for text in (
            " ", "\n", "rule", "wish", "wish ", "wish 0", "wish -0", "wish 01", "wish +1", "wish 1 2", "wish 1 ", " wish 1", "wish  1",
            "wish 101", "wish -101", "wish x", "wish 1\n", "\nwish 1", "wish 1\n\nwish 2", "wish 1\nwish 1", "wish 1\nwish -1",
            "wish " + "1" * 5000, "Wish 1", "want 1", "none", "rule a", "rule a 0", "rule a 0 1", "rule a 0 1 tree",
            "rule a 0 1 tree ", "rule a 0 1 tree 1 ", "rule a 0 1 tree  1", "rule  a 0 1 tree 1", "rule a 0 1  tree 1",
            "rule a 0 1 tree 0", "rule a 0 1 tree 01", "rule a 0 1 tree -0", "rule a 0 1 tree 1 1", "rule a 0 1 tree 1 -1",
            "rule a 0 1 tree 101", "rule a 0 1 tree x", "rule a 0 1 flat 1", "rule a 0 1 Tree 1", "rule a 0 1 sums 1",
            "rule A 0 1 tree 1", "rule a1 0 1 tree 1", "rule abcdefghi 0 1 tree 1", "rule a-b 0 1 tree 1", "rule  0 1 tree 1",
            "rule 1 0 1 tree 1", "rule a -1 1 tree 1", "rule a -0 1 tree 1", "rule a 00 1 tree 1", "rule a 0 01 tree 1",
            "rule a 0 61 tree 1", "rule a 61 61 tree 1", "rule a x 1 tree 1", "rule a 0 y tree 1", "rule a 0.0 1 tree 1",
            "rule a 1 0 tree 1", "rule a 2 2 tree 1", "rule a 0 1 codes 1 2", "rule a 0 0 codes 1", "rule a 0 1 1",
            "rule a 0 1 tree 1\nrule a 0 1 tree 2", "wish 1\nrule a 0 1 tree 1", "rule a 0 1 tree 1 2 3 4 5 6 7 8 9",
            "rule a 0 1 tree 1\nwish 2\nrule b 0 1 tree 1", "rule a 0 1 tree 1\n", "a 0 1 tree 1", "rule a 0 1 tree 1 wish 1",
            "rule a 0 1 tree 1 2 3 4 5 6 7 8\nwish 9", "rule a " + "9" * 5000 + " 1 tree 1", "rule a 0 29 pairs " + " ".join(map(str, range(1, 61))),
            "rule a 0 1 tree 1\trule b 0 1 tree 1", "rule a 0 1 tree\n1", "rule a 0 1 tree 1;wish 1",
        ):
            with self.subTest(text=text[:60]):
                self.assertRaises(NoText, read_desk, text)
        self.assertEqual(len(read_desk("rule abcdefgh 0 60 tree 1 2 3 4 5 6 7 100\nwish -100").rules()), 1)

    def test_spoilt(self):
        chance = random.Random(35)
        told = 0
        for _ in range(3000):
            text = changed(chance, show_desk(desk_by_chance(chance)))
            try:
                desk = read_desk(text)
            except NoText:
                told += 1
                continue
            self.assertEqual(show_desk(desk), text)
        self.assertGreater(told, 1500)

    def test_not_changed(self):
        desk = desk_by_chance(random.Random(36))
        before = (desk.rules(), desk.wishes())
        show_desk(desk)
        self.assertEqual((desk.rules(), desk.wishes()), before)


if __name__ == "__main__":
    unittest.main()
