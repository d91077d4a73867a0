import functools
import random
import unittest

from questions import (
    BLANK, NO, OWNER, POOLS, WHO, WIDE, YES, box_size, name, part, primitive_condition, random_view, simple_condition,
)
from whomaywhat.comparing import compare
from whomaywhat.conditions import holds
from whomaywhat.errors import NoRule
from whomaywhat.plainly import box, first_answer
from whomaywhat.requests import compare_requests, make_request
from whomaywhat.rules import decide
from whomaywhat.uses import lean, least_permitted, meeting, newly_permitted, same_view, shows_at
from whomaywhat.views import mentioned_words
from whomaywhat.words import word_at

NOTHING = make_request()
EVERYTHING = (("a", "permit", 0, YES),)
ANN, BOB = ("is", WHO, name("ann")), ("is", WHO, name("bob"))


def who(word):
    return make_request(words=[("who", word)])


def rules(*told):
    """A view with the rules named a, b, c and so on; each is an effect, a rank and a condition."""
    return tuple((word_at(place + 1), *rule) for place, rule in enumerate(told))


def permits(*conditions):
    return rules(*[("permit", 0, condition) for condition in conditions])


def without(view, name):
    return tuple(rule for rule in view if rule[0] != name)


def verdict(view, request):
    return decide(view, request)[0]


class NarrowingTest(unittest.TestCase):
    def test_newly_permitted(self):
        one, both = permits(ANN), permits(ANN, BOB)
        self.assertEqual(newly_permitted(one, both), who("bob"))
        self.assertIsNone(newly_permitted(both, one))
        self.assertIsNone(newly_permitted(both, both))
        self.assertIsNone(newly_permitted((), ()))
        self.assertIsNone(newly_permitted(EVERYTHING, ()))
        self.assertEqual(newly_permitted((), EVERYTHING), NOTHING)
        self.assertEqual(newly_permitted((), both), who("ann"))
        self.assertEqual(newly_permitted(rules(("permit", 0, YES), ("forbid", 0, BOB)), EVERYTHING), who("bob"))

    def test_the_order_is_that_of_both_views(self):
        self.assertEqual(newly_permitted((), permits(("not", ("is", WHO, BLANK)))), who("a"))
        old = rules(("forbid", 0, ("is", OWNER, name("zoe"))))
        self.assertEqual(newly_permitted(old, permits(("not", ("is", WHO, BLANK)))), who("zoe"))

    def test_same_view(self):
        self.assertIs(same_view((), ()), True)
        self.assertIs(same_view((), permits(NO)), True)
        self.assertIs(same_view(permits(ANN, BOB), permits(("any", (BOB, ANN)))), True)
        self.assertIs(same_view(permits(ANN, BOB), permits(ANN)), False)
        self.assertIs(same_view(permits(ANN), permits(ANN, BOB)), False)
        self.assertIs(same_view(EVERYTHING, rules(("permit", 9, YES), ("forbid", 3, ANN))), True)
        self.assertIs(same_view(EVERYTHING, rules(("permit", 3, YES), ("forbid", 9, ANN))), False)
        self.assertIs(same_view(permits(("most", "x", "", 5)), permits(("not", ("most", "", "x", -6)))), True)

    def test_random_views(self):
        dice = random.Random(51)
        seen = {True: 0, False: 0}
        while min(seen.values()) < 60:
            items = dice.choice(POOLS)
            old, new = random_view(dice, items, 2), random_view(dice, items, 2)
            if box_size((new, old, YES)) > 1500:
                continue
            found, other = newly_permitted(old, new), newly_permitted(new, old)
            self.assertEqual(found, first_answer(new, old, YES))
            same = all(verdict(old, request) == verdict(new, request) for request in box(new, old, YES))
            self.assertIs(same_view(old, new), same)
            self.assertIs(same_view(new, old), same)
            self.assertEqual(same, found is None and other is None)
            seen[found is None] += 1

    def test_against_compare(self):
        dice = random.Random(52)
        for _ in range(150):
            old, new = random_view(dice, WIDE, 5), random_view(dice, WIDE, 5)
            result = compare(new, old)
            self.assertEqual(newly_permitted(old, new), None if result[0] == "none" else result[1])


class LeanTest(unittest.TestCase):
    def leans(self, expected, *told):
        view = rules(*told)
        self.assertEqual("".join(rule[0] for rule in lean(view)), expected)
        self.assertEqual(lean(view), tuple(rule for rule in view if rule[0] in expected))
        self.assertEqual(lean(lean(view)), lean(view))
        self.assertIs(same_view(view, lean(view)), True)

    def test_nothing_idle(self):
        self.assertEqual(lean(()), ())
        self.leans("a", ("permit", 0, YES))
        self.leans("ab", ("permit", 0, ANN), ("permit", 0, BOB))
        self.leans("ab", ("forbid", 1, ANN), ("permit", 0, YES))

    def test_rules_that_never_decide(self):
        self.leans("", ("permit", 0, NO))
        self.leans("", ("forbid", 0, YES))
        self.leans("", ("permit", 0, ANN), ("forbid", 1, YES))
        self.leans("a", ("permit", 1, YES), ("permit", 0, ANN), ("forbid", 0, BOB), ("forbid", -1, YES))
        self.leans("a", ("permit", 0, ANN), ("permit", 0, ("all", (ANN, ("in", WHO, "s")))))

    def test_the_first_idle_rule_is_left_out(self):
        self.leans("b", ("permit", 0, ANN), ("permit", 0, ANN))
        self.leans("c", ("permit", 0, ANN), ("permit", 0, ANN), ("permit", 0, ANN))
        self.leans("bc", ("permit", 0, ("any", (ANN, BOB))), ("permit", 0, ANN), ("permit", 0, BOB))
        self.leans("c", ("permit", 0, ANN), ("permit", 0, BOB), ("permit", 0, ("any", (ANN, BOB))))
        self.leans("b", ("permit", 3, YES), ("permit", 0, YES))

    def test_a_forbidding_rule_that_becomes_idle_after_others(self):
        # As long as b permits, a is needed; b is idle because of a.
        self.leans("", ("forbid", 1, ANN), ("permit", 0, ANN))
        self.leans("", ("forbid", 0, ANN), ("permit", 0, ANN))
        self.leans("c", ("forbid", 1, ANN), ("permit", 0, ANN), ("permit", 0, BOB))
        self.leans("", ("forbid", 5, YES), ("permit", 0, ANN), ("permit", 1, BOB), ("permit", 4, YES))
        # A permitting rule, too: a overrides b, and below b the rule c permits the same.
        self.leans("c", ("permit", 2, ANN), ("forbid", 1, ANN), ("permit", 0, ANN))
        self.leans(
            "cd", ("forbid", 2, ANN), ("permit", 1, ANN), ("forbid", 0, BOB),
            ("permit", 0, ("any", (BOB, ("is", WHO, BLANK)))),
        )

    def plainly_lean(self, view):
        """Leaves the first idle rule out as long as there is one; idle is told by a walk through a box."""
        requests = list(box(view, (), YES))
        while True:
            verdicts = [verdict(view, request) for request in requests]
            for rule in view:
                shorter = without(view, rule[0])
                if [verdict(shorter, request) for request in requests] == verdicts:
                    view = shorter
                    break
            else:
                return view

    def test_small_views(self):
        dice = random.Random(53)
        lengths = []
        while len(lengths) < 200:
            view = random_view(dice, dice.choice(POOLS), 5, 2)
            if box_size((view, (), YES)) <= 400:
                result = lean(view)
                self.assertEqual(result, self.plainly_lean(view), view)
                lengths.append(len(view) - len(result))
        self.assertGreater(len([1 for length in lengths if length > 1]), 40)

    def test_words_and_ranks(self):
        """Rules about one word each and all ranks: what overrides what can be told for each word."""
        dice = random.Random(54)
        words = [word_at(number + 1) for number in range(4)]
        for _ in range(100):
            view = rules(*[
                (
                    dice.choice(("permit", "forbid")), dice.randrange(4),
                    dice.choice([("is", WHO, name(word)) for word in words] + [YES]),
                )
                for _ in range(12)
            ])
            self.assertEqual(lean(view), self.plainly_lean(view))

    def test_a_long_view(self):
        many = [
            ("permit" if number % 3 else "forbid", number % 5, ("in", WHO, "s" + word_at(number + 1)))
            for number in range(40)
        ]
        view = rules(*many, *many)
        result = lean(tuple(sorted(view)))
        self.assertIs(same_view(view, result), True)
        self.assertLessEqual(len(result), 40)
        for rule in result:
            self.assertIsNotNone(shows_at(result, rule[0]))


class ShowsAtTest(unittest.TestCase):
    def test_permitting_rules(self):
        view = permits(ANN, BOB, ("any", (ANN, BOB)))
        self.assertIsNone(shows_at(view, "a"))
        self.assertEqual(shows_at(view[:2], "a"), who("ann"))
        self.assertEqual(shows_at(view[:2], "b"), who("bob"))
        self.assertEqual(shows_at(view[1:], "c"), who("ann"))
        self.assertIsNone(shows_at(view[1:], "b"))
        self.assertEqual(shows_at(EVERYTHING, "a"), NOTHING)
        self.assertIsNone(shows_at(permits(NO), "a"))

    def test_forbidding_rules(self):
        view = rules(("forbid", 1, ("any", (ANN, BOB))), ("permit", 0, BOB), ("permit", -1, ANN), ("forbid", -1, YES))
        self.assertEqual(shows_at(view, "a"), who("bob"))
        self.assertIsNone(shows_at(view, "b"))
        self.assertIsNone(shows_at(view, "c"))
        self.assertIsNone(shows_at(view, "d"))
        self.assertEqual(shows_at(without(view, "d"), "a"), who("ann"))
        self.assertEqual(shows_at(without(view, "a"), "b"), who("bob"))
        self.assertIsNone(shows_at(without(view, "a"), "c"))

    def test_the_order_is_that_of_the_whole_view(self):
        view = rules(("permit", 0, ("not", ("is", WHO, BLANK))), ("permit", 3, ("is", OWNER, name("zoe"))))
        self.assertEqual(shows_at(view, "a"), who("zoe"))
        self.assertEqual(shows_at(view[:1], "a"), who("a"))
        self.assertEqual(shows_at(view, "b"), make_request(words=[("owner", "zoe")]))
        # The rule that shows mentions a word as well.
        view = rules(("permit", 0, ("not", ("is", WHO, name("zoe")))), ("forbid", 0, ("is", WHO, BLANK)))
        self.assertEqual(shows_at(view, "a"), who("a"))
        view = rules(("forbid", 0, ("not", ("in", name("zoe"), "s"))), ("permit", 0, ("not", ("is", WHO, BLANK))))
        self.assertEqual(shows_at(view, "a"), who("zoe"))

    def test_no_rule(self):
        for view, missing in (((), "a"), (EVERYTHING, "b"), (permits(ANN, BOB), "c"), (permits(ANN), "permit")):
            with self.assertRaises(NoRule):
                shows_at(view, missing)

    def test_small_views(self):
        dice = random.Random(55)
        seen = {"permit": 0, "forbid": 0, None: 0}
        while min(seen.values()) < 60:
            view = random_view(dice, dice.choice(POOLS), 4, 2)
            if not view or box_size((view, (), YES)) > 600:
                continue
            rule = dice.choice(view)
            rest = without(view, rule[0])
            found = [request for request in box(view, (), YES) if verdict(view, request) != verdict(rest, request)]
            result = shows_at(view, rule[0])
            self.assertEqual(result, found[0] if found else None)
            seen[rule[1] if found else None] += 1


class LeastPermittedTest(unittest.TestCase):
    def test_views(self):
        self.assertEqual(least_permitted(EVERYTHING, YES), NOTHING)
        self.assertIsNone(least_permitted((), YES))
        self.assertIsNone(least_permitted(EVERYTHING, NO))
        self.assertEqual(least_permitted(permits(BOB, ANN), YES), who("ann"))
        self.assertEqual(least_permitted(permits(BOB, ANN), ("not", ANN)), who("bob"))
        self.assertIsNone(least_permitted(permits(BOB, ANN), ("is", WHO, name("cid"))))
        self.assertIsNone(least_permitted(rules(("permit", 0, ANN), ("forbid", 0, YES)), YES))
        self.assertEqual(
            least_permitted(permits(("in", part(1), "s")), ("most", "x", "", -3)),
            make_request(paths=[("p", ["a", "a"])], sets=[("s", ["a"])], numbers=[("x", -3)]),
        )

    def test_the_condition_mentions_words_too(self):
        view = permits(("not", ("is", WHO, BLANK)))
        self.assertEqual(least_permitted(view, YES), who("a"))
        self.assertEqual(least_permitted(view, ("any", (YES, ("in", name("zoe"), "s")))), who("zoe"))

    def test_small_views(self):
        dice = random.Random(56)
        seen = {True: 0, False: 0}
        while min(seen.values()) < 60:
            items = dice.choice(POOLS)
            view, where = random_view(dice, items, 3), primitive_condition(dice, items, 2)
            if box_size((view, (), where)) <= 1500:
                expected = first_answer(view, (), where)
                self.assertEqual(least_permitted(view, where), expected)
                seen[expected is None] += 1


class MeetingTest(unittest.TestCase):
    def test_rules(self):
        view = rules(
            ("permit", 3, ("any", (ANN, BOB))), ("forbid", -7, ("any", (BOB, ("is", WHO, BLANK)))),
            ("permit", 0, ("is", WHO, BLANK)),
            ("forbid", 0, NO), ("permit", 1, YES),
        )
        for one, other, expected in (
            ("a", "b", who("bob")), ("b", "c", NOTHING), ("a", "c", None), ("a", "d", None), ("a", "e", who("ann")),
            ("d", "e", None), ("c", "e", NOTHING), ("a", "a", who("ann")), ("d", "d", None), ("e", "e", NOTHING),
        ):
            self.assertEqual(meeting(view, one, other), expected)
            self.assertEqual(meeting(view, other, one), expected)

    def test_only_the_words_of_the_two_conditions_count(self):
        view = permits(
            ("not", ("is", WHO, BLANK)), ("not", ("is", WHO, OWNER)), ("is", OWNER, name("zoe")),
            ("in", name("m"), "s"),
        )
        self.assertEqual(meeting(view, "a", "b"), who("a"))
        self.assertEqual(meeting(view, "a", "c"), make_request(words=[("owner", "zoe"), ("who", "zoe")]))
        self.assertEqual(meeting(view, "a", "d"), make_request(words=[("who", "m")], sets=[("s", ["m"])]))
        self.assertEqual(meeting(view, "a", "a"), who("a"))

    def test_no_rule(self):
        view = permits(ANN, BOB)
        for one, other in (("a", "c"), ("c", "a"), ("c", "c"), ("c", "d"), ("", "b")):
            with self.assertRaises(NoRule):
                meeting(view, one, other)
        with self.assertRaises(NoRule):
            meeting((), "a", "a")

    def test_small_views(self):
        dice = random.Random(57)
        seen = {True: 0, False: 0}
        while min(seen.values()) < 60:
            items = dice.choice(POOLS)
            first, second = simple_condition(dice, items), primitive_condition(dice, items, 3)
            view = rules(
                ("permit", 0, first), ("forbid", 5, primitive_condition(dice, items, 2)), ("forbid", 9, second),
            )
            both = permits(("all", (first, second)))
            if box_size((both, (), YES)) > 1000:
                continue
            found = [one for one in box(both, (), YES) if holds(first, one) and holds(second, one)]
            self.assertEqual(meeting(view, "a", "c"), found[0] if found else None)
            mentioned = mentioned_words(both, (), YES)
            key = functools.cmp_to_key(lambda one, other: compare_requests(mentioned, one, other))
            self.assertEqual(found[:1], [min(found, key=key)] if found else [])
            seen[bool(found)] += 1


if __name__ == "__main__":
    unittest.main()
