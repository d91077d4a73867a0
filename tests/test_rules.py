import itertools
import random
import unittest

from samples import nested
from whomaywhat.directory import Directory
from whomaywhat.errors import InvalidCondition, InvalidRule
from whomaywhat.requests import make_request
from whomaywhat.rules import applying, check_rule, decide

YES, NO = ("true",), ("false",)
WHO = ("field", "who")
BIG = 10 ** 40
EMPTY = make_request()

WRONG_CONDITIONS = (
    ("is", ("field", "Who"), WHO), ("is", ("part", "p", 41), WHO), ("is", ("name", "a b"), WHO),
    ("is", ("other", "s", ("set", "t")), WHO), ("in", WHO, ""), ("within", "s", ("names", ("b", "a"))),
    ("most", "x", "Y", 1), ("member", ("name", "ann"), "g"), ("under", "p", (("name", ""),)),
    ("at", "p", (WHO,) * 41), nested(13), ("not", ("in", WHO, "S")), ("all", (YES, ("in", WHO, "S"))),
)


class CheckRuleTest(unittest.TestCase):
    def test_valid_rules(self):
        for name in ("a", "zoe", "gran", "gran" * 50, "ogrant", "gr", "permit", "x" * 300):
            for effect in ("permit", "forbid"):
                for rank in (0, -1, BIG, -BIG):
                    for condition in (YES, ("is", WHO, ("name", "ann")), nested(12)):
                        self.assertIsNone(check_rule((name, effect, rank, condition)))

    def test_wrong_names(self):
        for name in ("", "A", "a b", "a1", " a", "a\n", "grant", "granta", "grantzz", "grants", "grant a", "Grant", "-"):
            with self.assertRaises(InvalidRule, msg=name):
                check_rule((name, "permit", 0, YES))

    def test_wrong_effects(self):
        for effect in ("", "Permit", "permits", "permit ", " forbid", "forbi", "allow", "refuse", "PERMIT"):
            with self.assertRaises(InvalidRule, msg=effect):
                check_rule(("a", effect, 0, YES))

    def test_wrong_conditions(self):
        for condition in WRONG_CONDITIONS:
            with self.assertRaises(InvalidCondition, msg=condition):
                check_rule(("a", "permit", 0, condition))

    def test_the_rule_comes_before_its_condition(self):
        for condition in WRONG_CONDITIONS:
            for name, effect in (("grant", "permit"), ("", "permit"), ("a", "allow"), ("grantb", "no")):
                with self.assertRaises(InvalidRule):
                    check_rule((name, effect, 0, condition))


class DecideTest(unittest.TestCase):
    def decided(self, rules, verdict, names, request=EMPTY):
        for order in itertools.permutations(rules):
            self.assertEqual(decide(list(order), request), (verdict, names))
            self.assertEqual(decide(order, request, None), (verdict, names))

    def test_the_example(self):
        rules = [("low", "permit", 0, YES), ("ban", "forbid", 1, ("in", WHO, "banned"))]
        request = make_request(words=[("who", "ann")], sets=[("banned", ["ann"])])
        self.assertEqual(decide(rules, request), ("refuse", ("ban",)))
        self.decided(rules, "permit", ("low",), make_request(words=[("who", "bob")], sets=[("banned", ["ann"])]))

    def test_no_rule_applies(self):
        self.decided([], "refuse", ())
        self.decided([("a", "permit", 0, NO)], "refuse", ())
        self.decided([("a", "permit", 5, NO), ("b", "forbid", 9, NO)], "refuse", ())

    def test_one_rule(self):
        for rank in (0, -7, BIG, -BIG):
            self.decided([("a", "permit", rank, YES)], "permit", ("a",))
            self.decided([("a", "forbid", rank, YES)], "refuse", ("a",))
            self.decided([("a", "permit", rank, YES), ("b", "forbid", rank + 1, NO)], "permit", ("a",))

    def test_ranks(self):
        for low, high in ((0, 1), (-1, 0), (-BIG, -BIG + 1), (BIG, BIG + 1), (-BIG, BIG)):
            self.decided([("a", "permit", low, YES), ("b", "forbid", high, YES)], "refuse", ("b",))
            self.decided([("a", "permit", high, YES), ("b", "forbid", low, YES)], "permit", ("a",))
            self.decided([("a", "permit", high, YES), ("b", "permit", low, YES)], "permit", ("a",))
            self.decided([("a", "forbid", high, YES), ("b", "forbid", low, YES)], "refuse", ("a",))

    def test_several_of_the_same_rank(self):
        for rank in (-3, 0, 4):
            low = ("aa", "forbid", rank - 1, YES)
            self.decided([("b", "permit", rank, YES), ("a", "permit", rank, YES), low], "permit", ("a", "b"))
            self.decided([("b", "permit", rank, YES), ("ab", "forbid", rank, YES), low], "refuse", ("ab",))
            self.decided(
                [("z", "forbid", rank, YES), ("b", "permit", rank, YES), ("ab", "forbid", rank, YES), low],
                "refuse", ("ab", "z"),
            )
            self.decided([("z", "forbid", rank, NO), ("b", "permit", rank, YES), low], "permit", ("b",))

    def test_with_a_directory(self):
        rules = (("a", "permit", 0, ("member", WHO, "staff")), ("b", "forbid", 1, ("at", "p", ())))
        request = make_request(words=[("who", "ann")], paths=[("p", ["x"])])
        self.assertEqual(decide(rules, request, Directory()), ("refuse", ()))
        directory = Directory([("ann", "dev"), ("dev", "staff")])
        self.assertEqual(decide(rules, request, directory), ("permit", ("a",)))
        self.assertEqual(decide(rules, make_request(words=[("who", "ann")]), directory=directory), ("refuse", ("b",)))
        self.assertEqual(applying(rules, make_request(words=[("who", "ann")]), directory=directory), ("a", "b"))

    def test_rules_of_grants(self):
        rule = ("granta", "permit", 0, ("all", (("is", WHO, ("name", "ann")), YES)))
        self.decided([rule], "permit", ("granta",), make_request(words=[("who", "ann")]))

    def test_applying(self):
        rules = [("c", "permit", 0, YES), ("aa", "forbid", -3, YES), ("a", "permit", 9, YES), ("b", "forbid", 9, NO)]
        for order in itertools.permutations(rules):
            self.assertEqual(applying(order, EMPTY), ("a", "aa", "c"))
            self.assertEqual(applying(list(order), EMPTY, None), ("a", "aa", "c"))
        self.assertEqual(applying([], EMPTY), ())
        self.assertEqual(applying((rules[3],), EMPTY), ())

    def test_the_list_is_not_modified(self):
        rules = [("c", "permit", 0, YES), ("a", "forbid", 1, YES), ("b", "permit", 1, NO)]
        before = list(rules)
        decide(rules, EMPTY)
        applying(rules, EMPTY)
        self.assertEqual(rules, before)

    def test_random_rules_against_the_definition(self):
        dice = random.Random(19)
        for _ in range(2000):
            names = dice.sample(["a", "b", "aa", "ab", "c", "zz"], dice.randrange(7))
            rules = [(n, dice.choice(("permit", "forbid")), dice.randrange(-1, 2), dice.choice((YES, NO))) for n in names]
            applied = [rule for rule in rules if rule[3] == YES]
            counting = [rule for rule in applied if not any(other[2] > rule[2] for other in applied)]
            forbids = sorted(rule[0] for rule in counting if rule[1] == "forbid")
            expected = ("refuse", tuple(forbids))
            if counting and not forbids:
                expected = ("permit", tuple(sorted(rule[0] for rule in counting)))
            self.assertEqual(decide(rules, EMPTY), expected)
            self.assertEqual(applying(rules, EMPTY), tuple(sorted(rule[0] for rule in applied)))


if __name__ == "__main__":
    unittest.main()
