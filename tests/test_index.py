import random
import unittest

from samples import condition as random_condition
from samples import random_request
from whomaywhat.conditions import holds
from whomaywhat.directory import Directory
from whomaywhat.errors import NoRule
from whomaywhat.index import Index, needed_pairs
from whomaywhat.requests import make_request
from whomaywhat.rules import applying, decide
from whomaywhat.terms import value_of

YES = ("true",)
WHO, OWNER = ("field", "who"), ("field", "owner")
ANN, BOB, BLANK = ("name", "ann"), ("name", "bob"), ("name", "")


def part(index, field="p"):
    return ("part", field, index)


def is_ann(term=WHO):
    return ("is", term, ANN)


class NeededPairsTest(unittest.TestCase):
    def needs(self, condition, *pairs):
        self.assertEqual(needed_pairs(condition), pairs)
        self.assertEqual(needed_pairs(("not", condition)), ())
        self.assertEqual(needed_pairs(("all", (condition, YES, condition))), pairs)
        self.assertEqual(needed_pairs(("any", (condition,))), pairs)
        self.assertEqual(needed_pairs(("any", (condition, ("all", (YES, condition))))), pairs)
        self.assertEqual(needed_pairs(("any", (condition, YES))), ())

    def test_is(self):
        self.needs(("is", WHO, ANN), (WHO, "ann"))
        self.needs(("is", ANN, WHO), (WHO, "ann"))
        self.needs(("is", BLANK, part(40)), (part(40), ""))
        self.needs(("is", part(0), BLANK), (part(0), ""))
        self.needs(("is", ANN, ANN))
        self.needs(("is", ANN, BOB))
        self.needs(("is", BLANK, ANN))
        self.needs(("is", WHO, OWNER))
        self.needs(("is", WHO, WHO))
        self.needs(("is", part(1), WHO))

    def test_conditions_that_need_nothing(self):
        for condition in (
            YES, ("false",), ("in", WHO, "s"), ("in", ANN, "s"), ("within", "s", ("names", ("ann",))),
            ("within", "s", ("set", "t")), ("most", "x", "", 0), ("member", WHO, "g"), ("all", ()), ("any", ()),
            ("not", ("not", is_ann())),
        ):
            self.needs(condition)

    def test_under(self):
        self.needs(("under", "p", ()))
        self.needs(("under", "p", (WHO,)))
        self.needs(("under", "p", (ANN,)), (part(0), "ann"))
        self.needs(("under", "p", (WHO, ANN, part(0), BOB, OWNER)), (part(1), "ann"), (part(3), "bob"))
        forty = [(part(index), "ann") for index in range(40)]
        self.needs(("under", "p", (ANN,) * 40), *forty)

    def test_at(self):
        self.needs(("at", "p", ()), (part(0), ""))
        self.needs(("at", "p", (WHO,)), (part(1), ""))
        self.needs(("at", "q", (ANN,)), (part(0, "q"), "ann"), (part(1, "q"), ""))
        self.needs(("at", "p", (WHO, ANN, part(0), BOB)), (part(1), "ann"), (part(3), "bob"), (part(4), ""))
        forty = [(part(index), "ann") for index in range(40)]
        self.needs(("at", "p", (ANN,) * 40), *forty, (part(40), ""))
        self.needs(("at", "p", (WHO,) * 40), (part(40), ""))

    def test_all(self):
        self.needs(("all", (is_ann(),)), (WHO, "ann"))
        self.needs(
            ("all", (is_ann(part(2)), ("is", BOB, WHO), YES, is_ann(OWNER), is_ann(part(0)), is_ann())),
            (OWNER, "ann"), (WHO, "ann"), (WHO, "bob"), (part(0), "ann"), (part(2), "ann"),
        )
        self.needs(
            ("all", (("all", (is_ann(), ("all", ()))), ("under", "p", (BOB,)), ("any", (is_ann(OWNER),)))),
            (OWNER, "ann"), (WHO, "ann"), (part(0), "bob"),
        )
        self.needs(("all", (is_ann(part(10)), is_ann(part(9)))), (part(9), "ann"), (part(10), "ann"))

    def test_any(self):
        self.needs(("any", (is_ann(), is_ann())), (WHO, "ann"))
        self.needs(("any", (is_ann(), ("is", WHO, BOB))))
        self.needs(("any", (is_ann(), is_ann(OWNER))))
        both = ("all", (is_ann(OWNER), ("is", WHO, BOB)))
        self.needs(("any", (both, is_ann(OWNER))), (OWNER, "ann"))
        self.needs(("any", (both, both, both)), (OWNER, "ann"), (WHO, "bob"))
        self.needs(("any", (both, ("any", ()))))
        self.needs(("any", (("at", "p", (ANN,)), ("under", "p", (ANN, BOB)))), (part(0), "ann"))

    def test_random_conditions_only_hold_with_their_pairs(self):
        dice = random.Random(21)
        directory = Directory([("a", "s"), ("b", "t"), ("t", "who")])
        needing = 0
        for _ in range(3000):
            condition = random_condition(dice, 4)
            pairs = needed_pairs(condition)
            self.assertEqual(pairs, tuple(sorted(set(pairs))))
            for _ in range(5):
                request = random_request(dice)
                if holds(condition, request, directory):
                    needing += len(pairs)
                    self.assertTrue(all(value_of(term, request) == word for term, word in pairs))
        self.assertGreater(needing, 100)


class IndexTest(unittest.TestCase):
    ANN = make_request(words=[("who", "ann")])

    def test_no_rules(self):
        for index in (Index(), Index([]), Index(())):
            self.assertEqual(index.found(self.ANN), ())
            self.assertEqual(index.decide(self.ANN), ("refuse", ()))

    def test_found(self):
        index = Index([
            ("everybody", "permit", 0, YES), ("ann", "permit", 0, is_ann()), ("bob", "permit", 0, ("is", BOB, WHO)),
            ("nobody", "permit", 0, ("is", WHO, BLANK)), ("never", "permit", 0, ("all", (is_ann(), ("false",)))),
            ("home", "permit", 0, ("at", "p", ())),
        ])
        self.assertEqual(index.found(self.ANN), ("ann", "everybody", "home", "never"))
        self.assertEqual(index.found(make_request(words=[("who", "bob")])), ("bob", "everybody", "home"))
        self.assertEqual(index.found(make_request(words=[("who", "cid")])), ("everybody", "home"))
        self.assertEqual(index.found(make_request()), ("everybody", "home", "nobody"))
        self.assertEqual(index.found(make_request(paths=[("p", ["ann"])])), ("everybody", "nobody"))
        self.assertEqual(index.found(make_request(words=[("owner", "ann")])), ("everybody", "home", "nobody"))

    def test_the_least_pair_counts(self):
        # (WHO, "ann") is less than (part(0), "bob"), so the part does not matter for what is found.
        index = Index([("a", "permit", 0, ("all", (("under", "p", (BOB,)), is_ann())))])
        self.assertEqual(index.found(self.ANN), ("a",))
        self.assertEqual(index.found(make_request(paths=[("p", ["bob"])])), ())
        # Of two words for one term the lesser one counts.
        index = Index([("a", "permit", 0, ("all", (("is", WHO, BOB), is_ann())))])
        self.assertEqual(index.found(self.ANN), ("a",))
        self.assertEqual(index.found(make_request(words=[("who", "bob")])), ())
        index = Index([("a", "permit", 0, ("at", "p", (BOB, WHO)))])
        self.assertEqual(index.found(make_request(paths=[("p", ["bob"])])), ("a",))
        self.assertEqual(index.found(make_request()), ())

    def test_put_replaces(self):
        index = Index([("a", "permit", 0, is_ann()), ("b", "forbid", -1, YES)])
        self.assertIsNone(index.put(("a", "permit", 0, ("is", WHO, BOB))))
        self.assertEqual(index.found(self.ANN), ("b",))
        self.assertEqual(index.found(make_request(words=[("who", "bob")])), ("a", "b"))
        index.put(("a", "forbid", 0, YES))
        self.assertEqual(index.found(self.ANN), ("a", "b"))
        self.assertEqual(index.decide(self.ANN), ("refuse", ("a",)))
        index.put(("a", "permit", 3, is_ann()))
        self.assertEqual(index.decide(self.ANN), ("permit", ("a",)))
        self.assertEqual(index.found(make_request()), ("b",))
        index.put(("a", "permit", 3, is_ann()))
        self.assertEqual(index.found(self.ANN), ("a", "b"))
        index.drop("a")
        self.assertEqual(index.found(self.ANN), ("b",))

    def test_drop(self):
        index = Index([("a", "permit", 0, is_ann()), ("b", "permit", 0, YES), ("c", "permit", 0, is_ann())])
        for name in ("d", "", "aa", "A"):
            with self.assertRaises(NoRule):
                index.drop(name)
        self.assertEqual(index.found(self.ANN), ("a", "b", "c"))
        self.assertIsNone(index.drop("a"))
        self.assertEqual(index.found(self.ANN), ("b", "c"))
        with self.assertRaises(NoRule):
            index.drop("a")
        index.drop("b")
        self.assertEqual(index.found(self.ANN), ("c",))
        index.drop("c")
        self.assertEqual(index.found(self.ANN), ())
        index.put(("a", "permit", 0, is_ann()))
        self.assertEqual(index.found(self.ANN), ("a",))

    def test_a_list_that_is_changed_later(self):
        rules = [("a", "permit", 0, is_ann()), ("b", "permit", 0, YES)]
        before = list(rules)
        index = Index(rules)
        index.drop("b")
        index.put(("c", "permit", 0, YES))
        self.assertEqual(rules, before)
        rules.clear()
        self.assertEqual(index.found(self.ANN), ("a", "c"))

    def test_two_indexes(self):
        one, other = Index([("a", "permit", 0, YES)]), Index([("a", "permit", 0, YES)])
        one.drop("a")
        other.put(("b", "permit", 0, is_ann()))
        self.assertEqual(one.found(self.ANN), ())
        self.assertEqual(other.found(self.ANN), ("a", "b"))

    def test_decide_with_a_directory(self):
        index = Index([("a", "permit", 0, ("all", (is_ann(), ("member", WHO, "staff"))))])
        self.assertEqual(index.decide(self.ANN, Directory()), ("refuse", ()))
        self.assertEqual(index.decide(self.ANN, Directory([("ann", "staff")])), ("permit", ("a",)))
        self.assertEqual(index.decide(self.ANN, directory=Directory([("ann", "staff")])), ("permit", ("a",)))
        self.assertEqual(index.found(self.ANN), ("a",))

    def test_random_rules(self):
        dice = random.Random(22)
        directory = Directory([("a", "s"), ("aa", "s"), ("b", "t"), ("t", "who")])
        index, rules = Index(), {}
        left_out = 0
        for _ in range(1500):
            name = dice.choice(("a", "b", "c", "d", "e", "aa", "bb"))
            if dice.random() < 0.2 and name in rules:
                index.drop(name)
                del rules[name]
            else:
                condition = random_condition(dice, 4)
                rules[name] = (name, dice.choice(("permit", "forbid")), dice.randrange(-1, 2), condition)
                index.put(rules[name])
            request = random_request(dice)
            expected = []
            for rule in rules.values():
                pairs = needed_pairs(rule[3])
                if not pairs or value_of(pairs[0][0], request) == pairs[0][1]:
                    expected.append(rule[0])
            self.assertEqual(index.found(request), tuple(sorted(expected)))
            self.assertLessEqual(set(applying(list(rules.values()), request, directory)), set(expected))
            self.assertEqual(index.decide(request, directory), decide(tuple(rules.values()), request, directory))
            left_out += len(rules) - len(expected)
        self.assertGreater(left_out, 500)


if __name__ == "__main__":
    unittest.main()
