import unittest

from whomaywhat.writing import write_book, write_condition

WHO = ("field", "who")

# Each condition and its written form; the reading tests use them as well.
WRITTEN = (
    (("true",), "yes"),
    (("false",), "no"),
    (("is", WHO, ("name", "ann")), 'is(who, "ann")'),
    (("is", ("name", ""), ("part", "thing", 0)), 'is("", thing.0)'),
    (("is", ("part", "p", 40), ("part", "p", 10)), "is(p.40, p.10)"),
    (("is", ("field", "is"), ("name", "not")), 'is(is, "not")'),
    (("is", ("part", "yes", 7), ("name", "permit")), 'is(yes.7, "permit")'),
    (("in", WHO, "readers"), "in(who, readers)"),
    (("in", ("name", ""), "in"), 'in("", in)'),
    (("in", ("part", "all", 3), "any"), "in(all.3, any)"),
    (("within", "s", ("set", "t")), "within(s, t)"),
    (("within", "within", ("set", "not")), "within(within, not)"),
    (("within", "s", ("names", ())), "within(s, {})"),
    (("within", "s", ("names", ("ann",))), 'within(s, {"ann"})'),
    (("within", "s", ("names", ("ann", "anna", "bob"))), 'within(s, {"ann", "anna", "bob"})'),
    (("most", "x", "y", 3), "most(x, y, 3)"),
    (("most", "size", "", -3), "most(size, 0, -3)"),
    (("most", "", "size", 0), "most(0, size, 0)"),
    (("most", "", "", 10), "most(0, 0, 10)"),
    (("most", "x", "y", int("9" * 60)), "most(x, y, " + "9" * 60 + ")"),
    (("most", "x", "y", -int("9" * 60)), "most(x, y, -" + "9" * 60 + ")"),
    (("member", WHO, "staff"), "member(who, staff)"),
    (("member", ("part", "thing", 1), "member"), "member(thing.1, member)"),
    (("under", "thing", ()), "under(thing, /)"),
    (("at", "thing", ()), "at(thing, /)"),
    (("under", "thing", (("name", "wiki"), WHO)), 'under(thing, /"wiki"/who)'),
    (("at", "p", (("part", "q", 0), ("part", "q", 40), ("name", "x"))), 'at(p, /q.0/q.40/"x")'),
    (("under", "p", (WHO,) * 40), "under(p, " + "/who" * 40 + ")"),
    (("not", ("true",)), "not(yes)"),
    (("not", ("not", ("false",))), "not(not(no))"),
    (("all", ()), "all()"),
    (("any", ()), "any()"),
    (("all", (("true",),)), "all(yes)"),
    (("any", (("true",), ("false",), ("any", ()))), "any(yes, no, any())"),
    (
        ("all", (("not", ("is", WHO, ("name", ""))), ("any", (("in", WHO, "s"), ("at", "p", ()))))),
        'all(not(is(who, "")), any(in(who, s), at(p, /)))',
    ),
)


class WriteConditionTest(unittest.TestCase):
    def test_the_example(self):
        condition = ("not", ("under", "thing", (("name", "wiki"), ("field", "who"))))
        self.assertEqual(write_condition(condition), 'not(under(thing, /"wiki"/who))')

    def test_each_kind(self):
        for condition, text in WRITTEN:
            self.assertEqual(write_condition(condition), text)


class WriteBookTest(unittest.TestCase):
    def test_books(self):
        self.assertEqual(write_book(()), "")
        self.assertEqual(write_book((("a", "permit", 0, ("true",)),)), "permit a 0 yes\n")
        book = (
            ("a", "forbid", -12, ("is", WHO, ("name", "ann"))),
            ("aa", "permit", int("9" * 60), ("all", ())),
            ("permit", "permit", 3, ("most", "x", "", -1)),
            ("zoe", "forbid", 0, ("under", "p", ())),
        )
        self.assertEqual(
            write_book(book),
            'forbid a -12 is(who, "ann")\n'
            "permit aa " + "9" * 60 + " all()\n"
            "permit permit 3 most(x, 0, -1)\n"
            "forbid zoe 0 under(p, /)\n",
        )


if __name__ == "__main__":
    unittest.main()
