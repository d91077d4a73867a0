import random
import unittest

from samples import condition as random_condition
from samples import nested, random_request
from whomaywhat import conditions
from whomaywhat.conditions import check_condition, holds, is_primitive
from whomaywhat.directory import Directory
from whomaywhat.errors import InvalidCondition
from whomaywhat.requests import make_request, members_of, number_of, part_of
from whomaywhat.terms import value_of

WHO = ("field", "who")
BIG = 10 ** 300


def name(word):
    return ("name", word)


def part(index, path="thing"):
    return ("part", path, index)


class HoldsTest(unittest.TestCase):
    REQUEST = make_request(
        words=[("who", "ann"), ("owner", "ann"), ("maker", "bob")],
        paths=[("thing", ["home", "ann", "notes"]), ("one", ["ann"]), ("long", ["w"] * 40), ("longer", ["w"] * 41)],
        sets=[("readers", ["ann", "bob"]), ("writers", ["ann"]), ("all", ["ann", "bob", "zoe"])],
        numbers=[("five", 5), ("seven", 7), ("minus", -3), ("huge", BIG), ("neg", -BIG)],
    )
    DIRECTORY = Directory([("ann", "dev"), ("dev", "staff"), ("staff", "everyone"), ("zoe", "ops")])

    def yes(self, condition, directory=None):
        self.assertIs(holds(condition, self.REQUEST, directory), True, condition)
        self.assertIs(holds(("not", condition), self.REQUEST, directory), False, condition)

    def no(self, condition, directory=None):
        self.assertIs(holds(condition, self.REQUEST, directory), False, condition)
        self.assertIs(holds(("not", condition), self.REQUEST, directory), True, condition)

    def test_the_examples(self):
        request = make_request(words=[("who", "ann")], paths=[("thing", ["home", "ann", "notes"])])
        self.assertIs(holds(("under", "thing", (("name", "home"), ("field", "who"))), request), True)
        request = make_request(numbers=[("limit", 5), ("spent", 5)])
        self.assertIs(holds(("most", "spent", "limit", -1), request), False)

    def test_constants(self):
        self.assertEqual((conditions.TRUE, conditions.FALSE), (("true",), ("false",)))
        self.yes(conditions.TRUE)
        self.no(conditions.FALSE)

    def test_is(self):
        self.yes(("is", WHO, name("ann")))
        self.yes(("is", name("ann"), WHO))
        self.no(("is", WHO, name("bob")))
        self.yes(("is", WHO, ("field", "owner")))
        self.no(("is", WHO, ("field", "maker")))
        self.yes(("is", WHO, part(1)))
        self.no(("is", WHO, part(0)))
        self.yes(("is", part(0, "one"), part(1)))
        self.yes(("is", name("q"), name("q")))
        self.no(("is", name("q"), name("")))
        self.yes(("is", WHO, WHO))

    def test_is_with_the_blank(self):
        self.yes(("is", name(""), name("")))
        self.yes(("is", ("field", "none"), name("")))
        self.yes(("is", part(3), ("field", "none")))
        self.no(("is", WHO, name("")))
        self.no(("is", part(3), WHO))
        self.yes(("is", part(40, "long"), name("")))
        self.no(("is", part(40, "longer"), name("")))

    def test_in(self):
        self.yes(("in", WHO, "writers"))
        self.no(("in", ("field", "maker"), "writers"))
        self.yes(("in", ("field", "maker"), "readers"))
        self.yes(("in", part(1), "readers"))
        self.yes(("in", name("zoe"), "all"))
        self.no(("in", name("zoe"), "readers"))
        self.no(("in", WHO, "who"))
        self.no(("in", WHO, "none"))

    def test_in_with_the_blank(self):
        for blank in (name(""), ("field", "none"), part(3)):
            self.no(("in", blank, "readers"))
            self.no(("in", blank, "none"))

    def test_within(self):
        self.yes(("within", "writers", ("set", "readers")))
        self.no(("within", "readers", ("set", "writers")))
        self.yes(("within", "readers", ("set", "readers")))
        self.no(("within", "readers", ("set", "none")))
        self.yes(("within", "readers", ("names", ("ann", "bob"))))
        self.yes(("within", "readers", ("names", ("a", "ann", "bob", "z"))))
        self.no(("within", "readers", ("names", ("ann",))))
        self.no(("within", "readers", ("names", ("bob",))))
        self.no(("within", "readers", ("names", ())))

    def test_within_with_the_empty_set(self):
        self.yes(("within", "none", ("names", ())))
        self.yes(("within", "none", ("names", ("ann",))))
        self.yes(("within", "none", ("set", "readers")))
        self.yes(("within", "none", ("set", "empty")))

    def test_most(self):
        for x, y, difference in (
            ("five", "seven", -2), ("seven", "five", 2), ("minus", "five", -8), ("five", "five", 0),
            ("huge", "five", BIG - 5), ("five", "huge", 5 - BIG), ("huge", "neg", 2 * BIG), ("neg", "huge", -2 * BIG),
            ("none", "five", -5), ("five", "none", 5), ("five", "who", 5),
        ):
            self.yes(("most", x, y, difference))
            self.yes(("most", x, y, difference + 1))
            self.yes(("most", x, y, difference + BIG))
            self.no(("most", x, y, difference - 1))
            self.no(("most", x, y, difference - BIG))

    def test_most_with_the_blank(self):
        for x, y, difference in (("", "five", -5), ("five", "", 5), ("", "minus", 3), ("minus", "", -3), ("", "", 0)):
            self.yes(("most", x, y, difference))
            self.no(("most", x, y, difference - 1))

    def test_member(self):
        for group in ("dev", "staff", "everyone"):
            self.yes(("member", WHO, group), self.DIRECTORY)
            self.yes(("member", part(1), group), self.DIRECTORY)
        self.no(("member", WHO, "ops"), self.DIRECTORY)
        self.no(("member", WHO, "ann"), self.DIRECTORY)
        self.no(("member", ("field", "maker"), "dev"), self.DIRECTORY)
        self.no(("member", WHO, "dev"), Directory())
        for blank in (("field", "none"), part(3)):
            self.no(("member", blank, "dev"), self.DIRECTORY)
            self.no(("member", blank, "none"), self.DIRECTORY)

    def test_member_while_links_change(self):
        directory = Directory([("ann", "dev"), ("dev", "staff")])
        condition = ("member", WHO, "staff")
        self.yes(condition, directory)
        directory.leave("dev", "staff")
        self.no(condition, directory)
        directory.join("dev", "staff")
        self.yes(condition, directory)
        directory.leave("ann", "dev")
        self.no(condition, directory)

    def test_under(self):
        self.yes(("under", "thing", ()))
        self.yes(("under", "none", ()))
        self.yes(("under", "thing", (name("home"),)))
        self.no(("under", "thing", (name("house"),)))
        self.yes(("under", "thing", (name("home"), WHO)))
        self.no(("under", "thing", (name("home"), ("field", "maker"))))
        self.yes(("under", "thing", (name("home"), WHO, name("notes"))))
        self.yes(("under", "thing", (part(0), part(0, "one"), part(2))))
        self.no(("under", "thing", (part(0), part(1), part(1))))
        self.no(("under", "thing", (name("home"), WHO, name("notes"), name("x"))))
        self.no(("under", "none", (name("home"),)))

    def test_at(self):
        self.yes(("at", "none", ()))
        self.no(("at", "thing", ()))
        self.no(("at", "thing", (name("home"),)))
        self.no(("at", "thing", (name("home"), WHO)))
        self.yes(("at", "thing", (name("home"), WHO, name("notes"))))
        self.no(("at", "thing", (name("home"), WHO, name("note"))))
        self.no(("at", "thing", (name("home"), WHO, name("notes"), name("x"))))
        self.yes(("at", "one", (WHO,)))
        self.no(("at", "one", (name("bob"),)))
        self.no(("at", "none", (name("home"),)))

    def test_templates_with_blanks(self):
        # Two blanks are the same for "is", but no match in a template.
        for kind in ("under", "at"):
            self.no((kind, "none", (("field", "none"),)))
            self.no((kind, "thing", (name("home"), WHO, name("notes"), ("field", "none"))))
            self.no((kind, "thing", (name("home"), WHO, name("notes"), part(3))))
            self.no((kind, "thing", (name("home"), ("field", "none"), name("notes"))))
            self.no((kind, "thing", (("field", "none"),)))

    def test_templates_of_forty_terms(self):
        terms = (name("w"),) * 40
        wrong = terms[:39] + (name("v"),)
        self.yes(("under", "long", terms))
        self.yes(("at", "long", terms))
        self.yes(("under", "longer", terms))
        self.no(("at", "longer", terms))
        self.no(("at", "long", terms[:39]))
        self.no(("under", "thing", terms))
        for kind in ("under", "at"):
            self.no((kind, "long", wrong))
            self.no((kind, "longer", wrong))

    def test_all_and_any(self):
        true, false = ("true",), ("false",)
        self.yes(("all", ()))
        self.no(("any", ()))
        self.yes(("all", (true,)))
        self.no(("all", (false,)))
        self.yes(("any", (true,)))
        self.no(("any", (false,)))
        for place in range(3):
            self.no(("all", (true,) * place + (false,) + (true,) * (2 - place)))
            self.yes(("any", (false,) * place + (true,) + (false,) * (2 - place)))
        self.yes(("all", (true, ("any", (false, true)), ("not", ("all", (true, false))))))

    def test_not_nested(self):
        for depth in range(1, 60):
            (self.yes if depth % 2 else self.no)(nested(depth))
            (self.yes if depth % 2 else self.no)(nested(depth, ("is", WHO, name("ann"))))

    def test_without_a_directory(self):
        for condition in (("is", WHO, name("ann")), ("all", (("in", WHO, "all"), ("not", ("false",))))):
            self.assertIs(holds(condition, self.REQUEST), True)
            self.assertIs(holds(condition, self.REQUEST, None), True)
            self.assertIs(holds(condition, self.REQUEST, directory=None), True)
            self.assertIs(holds(condition, self.REQUEST, self.DIRECTORY), True)

    def test_random_conditions_against_the_definition(self):
        dice = random.Random(10)
        directory = Directory([("a", "s"), ("aa", "s"), ("b", "t"), ("t", "who")])
        seen = []
        for _ in range(3000):
            request = random_request(dice)
            condition = random_condition(dice, 5)
            seen.append(holds(condition, request, directory))
            self.assertIs(seen[-1], slow_holds(condition, request, directory))
        self.assertGreater(seen.count(True), 500)
        self.assertGreater(seen.count(False), 500)


def slow_holds(condition, request, directory):
    """Point [11], in other words than those of the program."""
    kind, *rest = condition
    if kind in ("true", "false"):
        return kind == "true"
    if kind == "is":
        return len({value_of(term, request) for term in rest}) == 1
    if kind == "in":
        return value_of(rest[0], request) in set(members_of(request, rest[1])) - {""}
    if kind == "within":
        words = members_of(request, rest[1][1]) if rest[1][0] == "set" else rest[1][1]
        return set(members_of(request, rest[0])) <= set(words)
    if kind == "most":
        x, y = (number_of(request, field) if field else 0 for field in rest[:2])
        return x <= y + rest[2]
    if kind == "member":
        word = value_of(rest[0], request)
        return bool(word) and word in directory.members(rest[1])
    if kind in ("under", "at"):
        path = dict(request[1]).get(rest[0], ())
        wanted = tuple(value_of(term, request) for term in rest[1])
        if "" in wanted:
            return False
        return path == wanted if kind == "at" else path[:len(wanted)] == wanted
    if kind == "not":
        return not slow_holds(rest[0], request, directory)
    parts = [slow_holds(one, request, directory) for one in rest[0]]
    return False not in parts if kind == "all" else True in parts


class CheckConditionTest(unittest.TestCase):
    NO_WORDS = ("A", "a b", " ", "a1", "9", "a\n", "a-b", '"')

    def good(self, condition):
        self.assertIsNone(check_condition(condition))

    def bad(self, condition):
        with self.assertRaises(InvalidCondition, msg=condition):
            check_condition(condition)

    def bad_everywhere(self, condition):
        self.bad(condition)
        good = ("is", WHO, name(""))
        self.bad(("not", condition))
        for kind in ("all", "any"):
            for conditions in ((condition,), (condition, good), (good, condition), (good, condition, good)):
                self.bad((kind, conditions))
            self.bad(nested(11, condition, ("not", kind)))
        self.bad(nested(12, condition, ("all", "not", "any")))

    def test_valid_conditions(self):
        for condition in (
            ("true",), ("false",), ("all", ()), ("any", ()), ("not", ("true",)),
            ("is", WHO, name("")), ("is", name(""), name("")), ("is", part(0), part(40)),
            ("in", name(""), "s"), ("in", name("a"), "s"), ("in", part(40), "s"),
            ("within", "s", ("set", "s")), ("within", "s", ("names", ())),
            ("within", "s", ("names", ("a", "aa", "b"))), ("within", "s", ("names", ("z",))),
            ("most", "", "", 0), ("most", "x", "", BIG), ("most", "", "y", -BIG), ("most", "x", "x", 1),
            ("member", WHO, "g"), ("member", part(40), "g"),
            ("under", "p", ()), ("at", "p", ()), ("under", "p", (name("a"), WHO, part(3))),
            ("at", "p", (name("a"), WHO, part(40))),
            ("under", "p", (name("a"),) * 40), ("at", "p", (WHO,) * 40),
        ):
            self.good(condition)
            self.good(("all", (condition, condition)))

    def test_random_valid_conditions(self):
        dice = random.Random(11)
        for depth in range(1, 13):
            for _ in range(30):
                self.good(random_condition(dice, depth))

    def test_fields_that_are_no_words(self):
        for text in self.NO_WORDS + ("",):
            for condition in (
                ("is", ("field", text), WHO), ("is", WHO, ("field", text)), ("is", ("part", text, 0), WHO),
                ("is", WHO, ("part", text, 0)), ("in", WHO, text), ("in", ("field", text), "s"),
                ("in", ("part", text, 0), "s"), ("within", text, ("set", "s")), ("within", "s", ("set", text)),
                ("within", text, ("names", ())), ("member", WHO, text), ("member", ("field", text), "g"),
                ("member", ("part", text, 0), "g"), ("under", text, ()), ("at", text, ()),
                ("under", text, (WHO,)), ("under", "p", (("field", text),)), ("at", "p", (WHO, ("part", text, 1))),
            ):
                self.bad_everywhere(condition)

    def test_names_and_number_fields_that_are_no_words(self):
        for text in self.NO_WORDS:
            for condition in (
                ("is", name(text), WHO), ("is", WHO, name(text)), ("in", name(text), "s"),
                ("most", text, "x", 0), ("most", "x", text, 0), ("most", "", text, 0), ("most", text, "", 0),
                ("under", "p", (name(text),)), ("at", "p", (WHO, name(text))),
                ("within", "s", ("names", (text,))), ("within", "s", ("names", ("A", "a"))),
            ):
                self.bad_everywhere(condition)

    def test_index_of_a_part(self):
        for index in (-1, 41, 42, -41, BIG, -BIG):
            for term in (part(index),):
                for condition in (
                    ("is", term, WHO), ("is", WHO, term), ("in", term, "s"), ("member", term, "g"),
                    ("under", "p", (term,)), ("at", "p", (WHO, term)),
                ):
                    self.bad_everywhere(condition)

    def test_other_terms(self):
        for target in (("set", "t"), ("names", ()), ("names", ("a",))):
            other = ("other", "s", target)
            for condition in (
                ("is", other, WHO), ("is", WHO, other), ("in", other, "s"), ("member", other, "g"),
                ("under", "p", (other,)), ("at", "p", (WHO, other)),
            ):
                self.bad_everywhere(condition)

    def test_names_of_a_target(self):
        for words in (
            ("",), ("", "a"), ("a", ""), ("b", "a"), ("a", "a"), ("aa", "a"), ("a", "c", "b"), ("a", "b", "b"),
            ("a", "a", "b"), ("a", "b", "a"), ("z", "aa"),
        ):
            self.bad_everywhere(("within", "s", ("names", words)))

    def test_the_term_of_member(self):
        self.bad_everywhere(("member", name("ann"), "g"))
        self.bad_everywhere(("member", name(""), "g"))

    def test_templates(self):
        for kind in ("under", "at"):
            for term in (name("a"), WHO, part(1)):
                self.good((kind, "p", (term,) * 40))
                self.bad_everywhere((kind, "p", (term,) * 41))
            for place in (0, 1, 39):
                terms = [WHO] * 40
                terms[place] = name("")
                self.bad_everywhere((kind, "p", tuple(terms)))

    def test_depth(self):
        for kinds in (("not",), ("all",), ("any",), ("not", "all", "any")):
            for deepest in (("true",), ("all", ()), ("any", ()), ("at", "p", ())):
                for depth in range(1, 13):
                    self.good(nested(depth, deepest, kinds))
                for depth in list(range(13, 20)) + [50, 99, 100]:
                    self.bad(nested(depth, deepest, kinds))

    def test_depth_beside_flat_conditions(self):
        self.good(("all", (("true",), nested(11), ("any", ()))))
        self.bad(("all", (("true",), nested(12), ("any", ()))))


class IsPrimitiveTest(unittest.TestCase):
    def test_each_kind(self):
        for condition in (
            ("true",), ("false",), ("is", WHO, name("a")), ("in", WHO, "member"), ("within", "at", ("set", "under")),
            ("within", "s", ("names", ("at", "member"))), ("most", "under", "at", 3),
            ("is", name("member"), ("field", "at")), ("not", ("true",)), ("all", ()), ("any", ()),
            ("any", (("false",), ("all", (("true",),)))),
        ):
            self.assertIs(is_primitive(condition), True)
            self.assertIs(is_primitive(nested(12, condition, ("not", "all", "any"))), True)

    def test_kinds_that_are_not_primitive(self):
        for condition in (
            ("member", WHO, "g"), ("under", "p", ()), ("at", "p", ()), ("under", "p", (name("a"),)),
            ("at", "p", (name("a"),)),
        ):
            self.assertIs(is_primitive(condition), False)
            self.assertIs(is_primitive(("not", condition)), False)
            for kind in ("all", "any"):
                for conditions in ((condition,), (("true",), condition), (condition, ("false",))):
                    self.assertIs(is_primitive((kind, conditions)), False)
            self.assertIs(is_primitive(nested(12, condition, ("not", "all", "any"))), False)


if __name__ == "__main__":
    unittest.main()
