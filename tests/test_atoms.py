import random
import unittest

from whomaywhat.atoms import is_atom, literal_of, makes_true
from whomaywhat.conditions import holds
from whomaywhat.requests import make_request

BIG = 10 ** 40
WHO = ("field", "who")
ANN, BLANK = ("name", "ann"), ("name", "")
ANY_T = ("other", "s", ("set", "t"))
ANY_NAMES = ("other", "s", ("names", ("a", "b")))
# Terms in ascending order.
TERMS = (
    ("field", "a"), ("field", "aa"), WHO, BLANK, ANN, ("name", "bob"), ("other", "a", ("set", "z")),
    ("other", "s", ("names", ())), ANY_NAMES, ("other", "s", ("names", ("b",))), ("other", "s", ("set", "a")), ANY_T,
    ("part", "p", 0), ("part", "p", 2), ("part", "p", 10), ("part", "q", 0),
)


class IsAtomTest(unittest.TestCase):
    def test_is(self):
        for place, one in enumerate(TERMS):
            self.assertIs(is_atom(("is", one, one)), False)
            for other in TERMS[place + 1:]:
                names = one[0] == "name" and other[0] == "name"
                self.assertIs(is_atom(("is", one, other)), not names)
                self.assertIs(is_atom(("is", other, one)), False)

    def test_in(self):
        for term in TERMS:
            self.assertIs(is_atom(("in", term, "s")), term != BLANK)

    def test_within(self):
        self.assertIs(is_atom(("within", "s", ("set", "t"))), True)
        self.assertIs(is_atom(("within", "t", ("set", "s"))), True)
        self.assertIs(is_atom(("within", "s", ("set", "s"))), False)
        for words in ((), ("s",), ("a", "b")):
            self.assertIs(is_atom(("within", "s", ("names", words))), True)

    def test_most(self):
        for most in (0, 1, -1, BIG, -BIG):
            self.assertIs(is_atom(("most", "x", "y", most)), True)
            self.assertIs(is_atom(("most", "x", "xx", most)), True)
            self.assertIs(is_atom(("most", "", "x", most)), True)
            self.assertIs(is_atom(("most", "y", "x", most)), False)
            self.assertIs(is_atom(("most", "x", "x", most)), False)
            self.assertIs(is_atom(("most", "x", "", most)), False)
            self.assertIs(is_atom(("most", "", "", most)), False)


class LiteralOfTest(unittest.TestCase):
    def test_is(self):
        for place, one in enumerate(TERMS):
            self.assertIs(literal_of(("is", one, one)), True)
            for other in TERMS[place + 1:]:
                if one[0] == "name" and other[0] == "name":
                    self.assertIs(literal_of(("is", one, other)), False)
                    self.assertIs(literal_of(("is", other, one)), False)
                else:
                    self.assertEqual(literal_of(("is", one, other)), (("is", one, other), True))
                    self.assertEqual(literal_of(("is", other, one)), (("is", one, other), True))

    def test_in(self):
        for term in TERMS:
            if term == BLANK:
                self.assertIs(literal_of(("in", term, "s")), False)
            else:
                self.assertEqual(literal_of(("in", term, "s")), (("in", term, "s"), True))

    def test_within(self):
        self.assertIs(literal_of(("within", "s", ("set", "s"))), True)
        for target in (("set", "t"), ("names", ()), ("names", ("s",)), ("names", ("a", "b"))):
            self.assertEqual(literal_of(("within", "s", target)), (("within", "s", target), True))

    def test_most(self):
        for most in (0, 1, -1, 7, BIG, -BIG):
            self.assertIs(literal_of(("most", "x", "x", most)), most >= 0)
            self.assertIs(literal_of(("most", "", "", most)), most >= 0)
            self.assertEqual(literal_of(("most", "x", "y", most)), (("most", "x", "y", most), True))
            self.assertEqual(literal_of(("most", "", "x", most)), (("most", "", "x", most), True))
            self.assertEqual(literal_of(("most", "y", "x", most)), (("most", "x", "y", -most - 1), False))
            self.assertEqual(literal_of(("most", "x", "", most)), (("most", "", "x", -most - 1), False))

    def test_the_literal_says_the_same(self):
        dice = random.Random(39)
        kinds = set()
        for _ in range(4000):
            condition = random_simple(dice)
            literal = literal_of(condition)
            kinds.add((condition[0], literal if isinstance(literal, bool) else "literal"))
            if isinstance(literal, tuple):
                self.assertTrue(is_atom(literal[0]))
            for _ in range(3):
                request = random_request(dice)
                expected = literal if isinstance(literal, bool) else makes_true(request, literal)
                self.assertIs(holds(condition, request), expected)
        self.assertEqual(len(kinds), 10)


def random_simple(dice):
    kind = dice.choice(("is", "in", "within", "most"))
    if kind == "is":
        return (kind, dice.choice(TERMS), dice.choice(TERMS))
    if kind == "in":
        return (kind, dice.choice(TERMS), dice.choice("st"))
    if kind == "within":
        return (kind, dice.choice("st"), dice.choice((("set", "s"), ("set", "t"), ("names", ("a", "ann")))))
    return (kind, dice.choice(("", "x", "y")), dice.choice(("", "x", "y")), dice.randrange(-3, 4))


def random_request(dice):
    words = ("a", "b", "ann", "bob")
    return make_request(
        words=[(field, dice.choice(words + ("",))) for field in ("a", "aa", "who")],
        paths=[(field, [dice.choice(words) for _ in range(dice.randrange(4))]) for field in "pq"],
        sets=[(field, dice.sample(words, dice.randrange(5))) for field in "sat"],
        numbers=[(field, dice.randrange(-3, 4)) for field in "xy"],
    )


class MakesTrueTest(unittest.TestCase):
    REQUEST = make_request(
        words=[("who", "ann"), ("owner", "ann"), ("maker", "bob")], paths=[("p", ["ann", "bob"])],
        sets=[("s", ["ann", "bob", "z"]), ("t", ["ann", "bob"]), ("u", ["ann"])], numbers=[("x", 5), ("y", -2)],
    )

    def holding(self, *atoms):
        for atom in atoms:
            self.assertIs(makes_true(self.REQUEST, (atom, True)), True, atom)
            self.assertIs(makes_true(self.REQUEST, (atom, False)), False, atom)

    def failing(self, *atoms):
        for atom in atoms:
            self.assertIs(makes_true(self.REQUEST, (atom, True)), False, atom)
            self.assertIs(makes_true(self.REQUEST, (atom, False)), True, atom)

    def test_is(self):
        self.holding(
            ("is", ("field", "owner"), WHO), ("is", WHO, ANN), ("is", WHO, ("part", "p", 0)),
            ("is", ("name", "z"), ANY_T), ("is", BLANK, ("part", "p", 2)), ("is", ("field", "no"), BLANK),
            ("is", BLANK, ("other", "u", ("set", "t"))), ("is", ANN, ("other", "s", ("names", ("bob", "z")))),
        )
        self.failing(
            ("is", ("field", "maker"), WHO), ("is", BLANK, ("part", "p", 1)), ("is", ANN, ANY_T),
            ("is", BLANK, ANY_T), ("is", ("name", "bob"), ("other", "s", ("names", ()))),
        )

    def test_in(self):
        self.holding(("in", WHO, "s"), ("in", ANN, "u"), ("in", ("part", "p", 1), "t"), ("in", ANY_T, "s"))
        self.failing(
            ("in", WHO, "no"), ("in", ("field", "no"), "s"), ("in", ANY_T, "t"), ("in", ("part", "p", 1), "u"),
            ("in", ("other", "u", ("set", "s")), "u"),
        )

    def test_within(self):
        self.holding(
            ("within", "t", ("set", "s")), ("within", "no", ("set", "u")), ("within", "no", ("names", ())),
            ("within", "u", ("names", ("ann", "c"))),
        )
        self.failing(
            ("within", "s", ("set", "t")), ("within", "u", ("names", ())), ("within", "t", ("names", ("ann",))),
            ("within", "s", ("set", "no")),
        )

    def test_most(self):
        self.holding(("most", "x", "y", 7), ("most", "", "x", -5), ("most", "", "y", 2), ("most", "x", "y", BIG))
        self.failing(("most", "x", "y", 6), ("most", "", "x", -6), ("most", "", "y", 1), ("most", "x", "y", -BIG))


if __name__ == "__main__":
    unittest.main()
