import random
import unittest

from samples import condition as random_condition
from samples import nested, random_request
from whomaywhat.atoms import is_atom
from whomaywhat.conditions import holds, is_primitive
from whomaywhat.directory import Directory
from whomaywhat.rules import decide
from whomaywhat.views import compiled, mentioned_words, question_atoms, view_of

YES, NO = ("true",), ("false",)
WHO, OWNER = ("field", "who"), ("field", "owner")
BLANK = ("name", "")


def name(word):
    return ("name", word)


def part(index):
    return ("part", "p", index)


def filled(index):
    return ("not", ("is", part(index), BLANK))


class CompiledTest(unittest.TestCase):
    LINKS = (("zoe", "ops"), ("ann", "dev"), ("bob", "dev"), ("dev", "staff"), ("ops", "staff"), ("staff", "all"))

    def setUp(self):
        self.directory = Directory(self.LINKS)

    def compiles(self, condition, expected):
        self.assertEqual(compiled(condition, self.directory), expected)
        for kind in ("all", "any"):
            self.assertEqual(
                compiled((kind, (YES, condition, ("not", condition), NO)), self.directory),
                (kind, (YES, expected, ("not", expected), NO)),
            )
        self.assertEqual(
            compiled(nested(6, condition, ("not", "all", "any")), self.directory),
            nested(6, expected, ("not", "all", "any")),
        )

    def test_conditions_that_stay(self):
        for condition in (
            YES, NO, ("is", WHO, BLANK), ("is", WHO, WHO), ("is", name("a"), name("b")), ("in", WHO, "dev"),
            ("in", BLANK, "s"), ("within", "s", ("set", "s")), ("within", "s", ("names", ())), ("most", "x", "x", -1),
            ("most", "y", "x", 10 ** 40), ("all", ()), ("any", ()), ("all", (YES,)), ("not", ("not", NO)),
        ):
            self.compiles(condition, condition)

    def test_member(self):
        self.compiles(("member", WHO, "none"), NO)
        self.compiles(("member", WHO, "ann"), NO)
        self.compiles(("member", WHO, "ops"), ("is", WHO, name("zoe")))
        self.compiles(("member", part(3), "dev"), ("any", (("is", part(3), name("ann")), ("is", part(3), name("bob")))))
        staff = tuple(("is", WHO, name(word)) for word in ("ann", "bob", "dev", "ops", "zoe"))
        self.compiles(("member", WHO, "staff"), ("any", staff))
        everybody = tuple(("is", OWNER, name(word)) for word in ("ann", "bob", "dev", "ops", "staff", "zoe"))
        self.compiles(("member", OWNER, "all"), ("any", everybody))

    def test_member_after_a_link_is_removed(self):
        self.directory.leave("dev", "staff")
        self.compiles(("member", WHO, "staff"), ("any", (("is", WHO, name("ops")), ("is", WHO, name("zoe")))))
        self.directory.leave("zoe", "ops")
        self.compiles(("member", WHO, "ops"), NO)
        self.compiles(("member", WHO, "staff"), ("is", WHO, name("ops")))

    def test_under(self):
        self.compiles(("under", "p", ()), YES)
        self.compiles(("under", "p", (name("a"),)), ("is", part(0), name("a")))
        self.compiles(("under", "p", (WHO,)), ("all", (("is", part(0), WHO), filled(0))))
        self.compiles(("under", "p", (part(0),)), ("all", (("is", part(0), part(0)), filled(0))))
        self.compiles(
            ("under", "p", (name("a"), WHO, name("b"), ("part", "q", 7))),
            ("all", (
                ("is", part(0), name("a")), ("is", part(1), WHO), filled(1), ("is", part(2), name("b")),
                ("is", part(3), ("part", "q", 7)), filled(3),
            )),
        )
        forty = tuple(("is", part(index), name("a")) for index in range(40))
        self.compiles(("under", "p", (name("a"),) * 40), ("all", forty))

    def test_at(self):
        self.compiles(("at", "p", ()), ("is", part(0), BLANK))
        self.compiles(("at", "p", (name("a"),)), ("all", (("is", part(0), name("a")), ("is", part(1), BLANK))))
        self.compiles(("at", "p", (WHO,)), ("all", (("is", part(0), WHO), filled(0), ("is", part(1), BLANK))))
        self.compiles(
            ("at", "p", (name("a"), OWNER)),
            ("all", (("is", part(0), name("a")), ("is", part(1), OWNER), filled(1), ("is", part(2), BLANK))),
        )
        self.assertEqual(compiled(("at", "p", (WHO,) * 40), self.directory)[1][-1], ("is", part(40), BLANK))

    def test_inner_conditions_stay_at_their_places(self):
        condition = ("any", (("not", ("member", WHO, "ops")), ("all", (("under", "p", ()), ("any", ()))), YES))
        expected = ("any", (("not", ("is", WHO, name("zoe"))), ("all", (YES, ("any", ()))), YES))
        self.compiles(condition, expected)

    def test_random_conditions_say_the_same(self):
        dice = random.Random(38)
        directory = Directory([("a", "s"), ("aa", "s"), ("b", "t"), ("t", "who"), ("a", "who"), ("is", "in")])
        changed = 0
        for _ in range(2000):
            condition = random_condition(dice, 4)
            result = compiled(condition, directory)
            self.assertIs(is_primitive(result), True)
            changed += result != condition
            for _ in range(3):
                request = random_request(dice)
                self.assertIs(holds(result, request), holds(condition, request, directory))
        self.assertGreater(changed, 500)


class ViewOfTest(unittest.TestCase):
    def test_names_effects_and_ranks(self):
        directory = Directory([("ann", "dev")])
        rules = [
            ("z", "permit", -3, ("member", WHO, "dev")), ("b", "forbid", 10 ** 40, ("under", "p", ())),
            ("aa", "permit", 0, ("at", "p", ())), ("granta", "permit", 0, ("all", (YES,))),
        ]
        expected = (
            ("aa", "permit", 0, ("is", part(0), BLANK)), ("b", "forbid", 10 ** 40, YES),
            ("granta", "permit", 0, ("all", (YES,))), ("z", "permit", -3, ("is", WHO, name("ann"))),
        )
        before = list(rules)
        self.assertEqual(view_of(rules, directory), expected)
        self.assertEqual(view_of(tuple(rules[::-1]), directory), expected)
        self.assertEqual(rules, before)
        self.assertEqual(directory.links(), (("ann", "dev"),))

    def test_no_rules(self):
        self.assertEqual(view_of([], Directory()), ())
        self.assertEqual(view_of((), Directory([("a", "b")])), ())

    def test_a_view_stays_when_the_directory_changes(self):
        directory = Directory([("ann", "dev")])
        view = view_of([("a", "permit", 0, ("member", WHO, "dev"))], directory)
        directory.leave("ann", "dev")
        self.assertEqual(view, (("a", "permit", 0, ("is", WHO, name("ann"))),))
        self.assertEqual(view_of([("a", "permit", 0, ("member", WHO, "dev"))], directory), (("a", "permit", 0, NO),))

    def test_decisions_are_the_same(self):
        dice = random.Random(37)
        directory = Directory([("a", "s"), ("aa", "s"), ("b", "t"), ("t", "who")])
        for _ in range(300):
            rules = [
                (word, dice.choice(("permit", "forbid")), dice.randrange(2), random_condition(dice, 3))
                for word in dice.sample("abcdefg", 4)
            ]
            view = view_of(rules, directory)
            for _ in range(5):
                request = random_request(dice)
                self.assertEqual(decide(view, request), decide(rules, request, directory))


def question(*conditions):
    """The conditions spread over left, right and where in each way."""
    for turn in range(len(conditions)):
        first, second, *others = conditions[turn:] + conditions[:turn] + (YES, NO)
        left = (("a", "permit", 0, first), ("b", "forbid", 3, others[0]))
        right = (("c", "permit", 0, ("any", tuple(others))),)
        yield left, right, ("not", ("all", (second,)))
        yield (), left + right, second
        yield right + left, (), ("any", (NO, second))


class QuestionTest(unittest.TestCase):
    def mentions(self, words, *conditions):
        for left, right, where in question(*conditions):
            self.assertEqual(mentioned_words(left, right, where), words)

    def has_atoms(self, atoms, *conditions):
        self.assertEqual(atoms, tuple(sorted(atoms)))
        self.assertTrue(all(is_atom(atom) for atom in atoms))
        for left, right, where in question(*conditions):
            self.assertEqual(question_atoms(left, right, where), atoms)

    def test_empty_questions(self):
        self.assertEqual(mentioned_words((), (), YES), ())
        self.assertEqual(question_atoms((), (), YES), ())

    def test_one_condition_in_each_place(self):
        rule = ("r", "permit", 0, ("is", WHO, name("ann")))
        for left, right, where in (((rule,), (), YES), ((), (rule,), YES), ((), (), rule[3])):
            self.assertEqual(mentioned_words(left, right, where), ("ann",))
            self.assertEqual(question_atoms(left, right, where), (("is", WHO, name("ann")),))

    def test_mentioned_words(self):
        self.mentions(("ann",), ("is", WHO, name("ann")))
        self.mentions(("ann",), ("is", name("ann"), WHO), ("in", name("ann"), "s"))
        self.mentions(("ann",), ("in", name("ann"), "s"))
        self.mentions(("b", "bob", "c"), ("within", "s", ("names", ("b", "bob", "c"))))
        self.mentions((), ("is", WHO, BLANK), ("is", BLANK, BLANK), ("in", BLANK, "s"), ("within", "s", ("names", ())))
        self.mentions((), ("is", WHO, part(0)), ("in", WHO, "s"), ("within", "s", ("set", "t")), ("most", "x", "y", 1),
                      ("most", "x", "", 1), ("most", "", "", 1))
        self.mentions(
            ("a", "aa", "ab", "b", "z"), ("is", name("z"), name("ab")), ("is", name("aa"), name("aa")),
            ("within", "s", ("names", ("a", "b"))), ("not", ("any", (("is", BLANK, name("b")), YES))),
        )

    def test_atoms(self):
        self.has_atoms((("is", WHO, name("ann")),), ("is", name("ann"), WHO), ("is", WHO, name("ann")))
        self.has_atoms((("is", OWNER, WHO),), ("is", WHO, OWNER), ("not", ("is", OWNER, WHO)))
        self.has_atoms((("is", WHO, BLANK),), ("is", BLANK, WHO), ("is", WHO, WHO), ("is", BLANK, name("a")))
        self.has_atoms((("in", WHO, "s"),), ("in", WHO, "s"), ("in", BLANK, "s"))
        self.has_atoms((("within", "s", ("set", "t")),), ("within", "s", ("set", "s")), ("within", "s", ("set", "t")))
        self.has_atoms((("most", "x", "y", 3),), ("most", "x", "y", 3), ("most", "y", "x", -4), ("most", "x", "x", 1))
        self.has_atoms((("most", "", "x", -4), ("most", "", "x", 3)), ("most", "x", "", 3), ("most", "", "x", 3))
        self.has_atoms((), ("most", "", "", 3), ("most", "x", "x", -1), ("in", BLANK, "s"), ("is", name("a"), name("a")))

    def test_atoms_in_ascending_order(self):
        self.has_atoms(
            (
                ("in", WHO, "s"), ("in", WHO, "t"), ("in", name("a"), "s"), ("is", OWNER, WHO), ("is", WHO, BLANK),
                ("is", BLANK, part(2)), ("is", BLANK, part(10)), ("most", "x", "y", -5), ("most", "x", "y", 10),
                ("within", "s", ("names", ())), ("within", "s", ("names", ("a",))), ("within", "s", ("set", "a")),
            ),
            ("all", (("within", "s", ("set", "a")), ("most", "x", "y", 10), ("most", "y", "x", 4))),
            ("any", (("is", part(10), BLANK), ("is", part(2), BLANK), ("is", WHO, BLANK), ("in", WHO, "t"))),
            ("not", ("all", (("in", name("a"), "s"), ("in", WHO, "s"), ("within", "s", ("names", ("a",)))))),
            ("within", "s", ("names", ())), ("is", WHO, OWNER),
        )


if __name__ == "__main__":
    unittest.main()
