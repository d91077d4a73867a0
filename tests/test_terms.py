import unittest

from whomaywhat.requests import make_request
from whomaywhat.terms import value_of

REQUEST = make_request(
    words=[("who", "ann"), ("s", "word")],
    paths=[("thing", ["home", "ann", "notes"]), ("long", ["p"] * 40 + ["last", "over"])],
    sets=[("s", ["aa", "z", "b", "zz", "aab"]), ("t", ["b", "z"]), ("u", ["aa", "aab", "b", "z", "zz"])],
    numbers=[("n", 3)],
)


class ValueOfTest(unittest.TestCase):
    def value(self, term, expected):
        self.assertEqual(value_of(term, REQUEST), expected)

    def test_names(self):
        self.value(("name", "bob"), "bob")
        self.value(("name", "who"), "who")
        self.value(("name", ""), "")

    def test_fields(self):
        self.value(("field", "who"), "ann")
        self.value(("field", "s"), "word")
        for missing in ("owner", "thing", "t", "n"):
            self.value(("field", missing), "")

    def test_parts(self):
        self.value(("part", "thing", 0), "home")
        self.value(("part", "thing", 1), "ann")
        self.value(("part", "thing", 2), "notes")
        self.value(("part", "thing", 3), "")
        self.value(("part", "thing", 40), "")
        self.value(("part", "long", 39), "p")
        self.value(("part", "long", 40), "last")
        self.value(("part", "who", 0), "")
        self.value(("part", "none", 0), "")

    def test_other_than_a_set(self):
        # The least number counts: aa comes before z in the alphabet, but z has the lesser number.
        self.value(("other", "s", ("set", "t")), "aa")
        self.value(("other", "s", ("set", "none")), "b")
        self.value(("other", "s", ("set", "who")), "b")
        self.value(("other", "s", ("set", "u")), "")
        self.value(("other", "s", ("set", "s")), "")
        self.value(("other", "t", ("set", "s")), "")
        self.value(("other", "none", ("set", "t")), "")
        self.value(("other", "who", ("set", "t")), "")

    def test_other_than_names(self):
        self.value(("other", "s", ("names", ())), "b")
        self.value(("other", "s", ("names", ("b",))), "z")
        self.value(("other", "s", ("names", ("b", "z"))), "aa")
        self.value(("other", "s", ("names", ("aa", "b", "z"))), "zz")
        self.value(("other", "s", ("names", ("aa", "b", "z", "zz"))), "aab")
        self.value(("other", "s", ("names", ("aa", "aab", "b", "z", "zz"))), "")
        self.value(("other", "s", ("names", ("c", "y"))), "b")
        self.value(("other", "none", ("names", ())), "")


if __name__ == "__main__":
    unittest.main()
