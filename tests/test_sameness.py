import itertools
import random
import unittest

from samples import random_case
from whomaywhat.models import is_possible
from whomaywhat.sameness import facts_of, find_steps, is_closed

BIG = 10 ** 40
WHO, OWNER, MAKER = ("field", "who"), ("field", "owner"), ("field", "maker")
ANN, BOB, BLANK = ("name", "ann"), ("name", "bob"), ("name", "")


def part(index, field="p"):
    return ("part", field, index)


def same(t, u, truth=True):
    return (("is", t, u), truth)


def member(t, s, truth=True):
    return (("in", t, s), truth)


def within(s, target, truth=True):
    target = ("set", target) if isinstance(target, str) else ("names", target)
    return (("within", s, target), truth)


def other(s, target):
    return ("other", s, within(s, target)[0][2])


LITERALS = (
    same(WHO, ANN), same(ANN, part(0)), same(OWNER, WHO, False), member(WHO, "s"), member(OWNER, "t", False),
    same(part(3), BLANK), within("s", "t"), within("t", "u", False), within("s", ("ann", "bob")),
    within("t", ("ann", "bob"), False), within("u", ()), within("u", (), False), (("most", "x", "y", 3), True),
    same(part(2), BLANK, False), member(part(1), "v"),
)
GIVEN = tuple(("given", literal) for literal in LITERALS if literal[0][0] in ("is", "in"))


class StepsTest(unittest.TestCase):
    """Each kind of step behind the steps GIVEN, whose indexes are from 0 to 7."""

    CASE = LITERALS

    def gives(self, fact, *steps):
        facts = facts_of(self.CASE, GIVEN + steps)
        self.assertEqual(facts[:len(GIVEN)], [step[1] for step in GIVEN])
        self.assertEqual(len(facts), len(GIVEN) + len(steps))
        self.assertEqual(facts[-1], fact)
        self.assertIs(is_closed(self.CASE, GIVEN + steps), fact is None)

    def wrong(self, *steps):
        self.assertIsNone(facts_of(self.CASE, GIVEN + steps))
        self.assertIsNone(facts_of(self.CASE, GIVEN + steps + (("same", WHO),)))
        self.assertIs(is_closed(self.CASE, GIVEN + steps), False)

    def wrong_indexes(self, make, *right):
        """make makes a step out of indexes, of which the told ones are right."""
        own = len(GIVEN)
        closing = (("over", within("u", (), False)), ("listed", own, within("u", ()), ()))
        self.assertIsNotNone(facts_of(self.CASE, GIVEN + closing + (make(*right),)))
        for place in range(len(right)):
            for index in (-1, -own, -BIG, own, own + 1, BIG):
                indexes = right[:place] + (index,) + right[place + 1:]
                self.wrong(make(*indexes))
                # A later step that has the right fact is no help.
                self.wrong(make(*indexes), GIVEN[right[place]])
            self.wrong(*closing, make(*right[:place], own + 1, *right[place + 1:]))

    def test_no_steps(self):
        for case in ((), LITERALS):
            self.assertEqual(facts_of(case, ()), [])
            self.assertIs(is_closed(case, ()), False)

    def test_given(self):
        for literal in LITERALS:
            if literal[0][0] in ("is", "in"):
                self.gives(literal, ("given", literal))
            else:
                self.wrong(("given", literal))
            self.wrong(("given", (literal[0], not literal[1])))
        for literal in (same(ANN, WHO), same(WHO, BOB), member(WHO, "t"), within("s", "s")):
            self.wrong(("given", literal))
        self.assertIsNone(facts_of((), (("given", LITERALS[0]),)))

    def test_same(self):
        for term in (WHO, ANN, BLANK, part(0), part(41), part(BIG), ("name", "new"), other("s", "t"), other("s", ())):
            self.gives(same(term, term), ("same", term))

    def test_unlike(self):
        for v, w in (("a", "b"), ("b", "a"), ("", "a"), ("a", ""), ("new", "newer")):
            self.gives(same(("name", v), ("name", w), False), ("unlike", v, w))
        for v, w in (("a", "a"), ("", ""), ("A", "b"), ("b", "A"), ("a", "a b"), ("a1", "a"), ("", "?"), ("A", "A")):
            self.wrong(("unlike", v, w))

    def test_turn(self):
        self.gives(same(ANN, WHO), ("turn", 0))
        self.gives(same(WHO, OWNER, False), ("turn", 2))
        self.gives(same(WHO, ANN), ("turn", 0), ("turn", 8))
        self.gives(same(WHO, WHO), ("same", WHO), ("turn", 8))
        self.wrong(("turn", 3))
        self.wrong(("turn", 4))
        self.wrong_indexes(lambda i: ("turn", i), 0)

    def test_join(self):
        self.gives(same(WHO, part(0)), ("join", 0, 1))
        self.gives(same(ANN, OWNER, False), ("turn", 0), ("turn", 2), ("join", 8, 9))
        self.gives(member(ANN, "s"), ("turn", 0), ("join", 8, 3))
        self.gives(member(OWNER, "t", False), ("same", OWNER), ("join", 8, 4))
        self.gives(same(WHO, ANN), ("same", WHO), ("join", 8, 0))
        # The facts do not meet, or the first one is no sameness.
        for i, j in ((0, 0), (1, 0), (2, 0), (0, 2), (2, 3), (3, 0), (3, 3), (0, 3), (0, 4), (5, 7), (7, 5)):
            self.wrong(("join", i, j))
        self.wrong_indexes(lambda i, j: ("join", i, j), 0, 1)

    def test_end(self):
        self.gives(same(part(4), BLANK), ("end", 5))
        self.gives(same(part(5), BLANK), ("end", 5), ("end", 8))
        steps = tuple(("end", index) for index in (5,) + tuple(range(8, 60)))
        self.gives(same(part(56), BLANK), *steps)
        for index in (0, 1, 2, 3, 4, 6, 7):
            self.wrong(("end", index))
        self.wrong(("turn", 5), ("end", 8))
        self.wrong(("same", part(1)), ("end", 8))
        self.wrong(("same", BLANK), ("end", 8))
        self.wrong_indexes(lambda i: ("end", i), 5)

    def test_end_beyond_forty(self):
        for index in (39, 40, 41, BIG):
            case = (same(part(index, "q"), BLANK),)
            facts = facts_of(case, (("given", case[0]), ("end", 0), ("end", 1)))
            self.assertEqual(facts[2], same(part(index + 2, "q"), BLANK))

    def test_filled(self):
        self.gives(same(WHO, BLANK, False), ("filled", 3))
        self.gives(same(other("t", "u"), BLANK, False), ("over", LITERALS[7]), ("filled", 8))
        for index in (0, 2, 4, 5):
            self.wrong(("filled", index))
        self.wrong_indexes(lambda i: ("filled", i), 3)

    def test_pass(self):
        self.gives(member(WHO, "t"), ("pass", 3, within("s", "t")))
        for literal in (
            within("s", "u"), within("t", "u"), within("t", "u", False), within("s", "t", False), within("t", "s"),
            within("s", ("ann", "bob")), within("s", "s"), same(WHO, ANN), member(WHO, "s"),
        ):
            self.wrong(("pass", 3, literal))
        for index in (0, 4):
            self.wrong(("pass", index, within("s", "t")))
        self.wrong_indexes(lambda i: ("pass", i, within("s", "t")), 3)

    def test_pass_from_another_set(self):
        case = (member(WHO, "u"), within("s", "t"))
        self.assertIsNone(facts_of(case, (("given", case[0]), ("pass", 0, case[1]))))

    def test_over(self):
        self.gives(member(other("t", "u"), "t"), ("over", within("t", "u", False)))
        self.gives(member(other("t", ("ann", "bob")), "t"), ("over", within("t", ("ann", "bob"), False)))
        self.gives(member(other("u", ()), "u"), ("over", within("u", (), False)))
        for literal in (
            within("t", "u"), within("s", "t"), within("s", "t", False), within("u", ()), within("t", ("ann",), False),
            same(OWNER, WHO, False), member(OWNER, "t", False),
        ):
            if literal != within("u", ()):
                self.wrong(("over", literal))
        self.wrong(("over", within("u", ())))

    def test_beyond(self):
        self.gives(member(other("t", "u"), "u", False), ("beyond", within("t", "u", False), ""))
        listed = within("t", ("ann", "bob"), False)
        for word in ("ann", "bob"):
            self.gives(same(other("t", ("ann", "bob")), ("name", word), False), ("beyond", listed, word))
        for word in ("", "cid", "an", "annbob"):
            self.wrong(("beyond", listed, word))
        for word in ("ann", "u", "t"):
            self.wrong(("beyond", within("t", "u", False), word))
        for word in ("", "ann"):
            self.wrong(("beyond", within("u", (), False), word))
            self.wrong(("beyond", within("s", "t"), word))
            self.wrong(("beyond", within("s", ("ann", "bob")), word))
            self.wrong(("beyond", within("s", "u", False), word))
            self.wrong(("beyond", same(OWNER, WHO, False), word))

    def test_clash(self):
        case = (same(WHO, ANN), same(WHO, ANN, False), member(WHO, "s"), member(WHO, "s", False), member(ANN, "s", False))
        steps = tuple(("given", literal) for literal in case)
        for i, j in itertools.product(range(5), repeat=2):
            right = (i, j) in ((0, 1), (1, 0), (2, 3), (3, 2))
            facts = facts_of(case, (*steps, ("clash", i, j)))
            self.assertEqual(facts, [*case, None] if right else None)
            self.assertIs(is_closed(case, (*steps, ("clash", i, j))), right)
        # The same two terms, but not in the same order.
        case = (same(ANN, WHO), same(WHO, ANN, False))
        steps = tuple(("given", literal) for literal in case)
        self.assertIs(is_closed(case, (*steps, ("clash", 0, 1))), False)
        self.assertIs(is_closed(case, (*steps, ("turn", 0), ("clash", 2, 1))), True)

    def test_indexes_of_clash(self):
        case = (same(WHO, ANN), same(WHO, ANN, False))
        steps = tuple(("given", literal) for literal in case)
        for index in (-1, -2, 2, 3, BIG, -BIG):
            for clash in (("clash", 0, index), ("clash", index, 1)):
                self.assertIsNone(facts_of(case, (*steps, clash)))
                self.assertIsNone(facts_of(case, (clash, *steps)))
        self.assertIsNone(facts_of(case, (*steps, ("clash", 0, 1), ("clash", 0, 2))))
        self.assertIsNone(facts_of(case, (*steps, ("clash", 0, 1), ("turn", 2))))

    def test_listed(self):
        listed = within("s", ("ann", "bob"))
        case = (
            member(WHO, "s"), same(WHO, ANN, False), same(WHO, BOB, False), listed, within("s", ("bob",)),
            within("s", ("ann",), False), within("t", ("bob",)), member(OWNER, "s"), member(WHO, "s", False),
            same(OWNER, BOB, False), same(WHO, ("name", "t"), False), within("s", "t"),
        )
        steps = tuple(("given", literal) for literal in case if literal[0][0] != "within")

        def closes(*step):
            closed = is_closed(case, (*steps, step))
            self.assertEqual(facts_of(case, (*steps, step)) is not None, closed)
            return closed

        self.assertIs(closes("listed", 0, listed, (1, 2)), True)
        self.assertIs(closes("listed", 0, within("s", ("bob",)), (2,)), True)
        for step in (
            (0, listed, (2, 1)), (0, listed, (1,)), (0, listed, (1, 2, 2)), (0, listed, ()), (0, listed, (1, 5)),
            (0, listed, (1, -4)), (0, listed, (1, 7)), (0, listed, (1, BIG)), (0, listed, (-1, 2)), (0, listed, (1, 1)),
            (3, listed, (1, 2)), (4, listed, (1, 2)), (1, listed, (1, 2)), (-1, listed, (1, 2)), (7, listed, (1, 2)),
            (0, within("s", ("ann",)), (1,)), (0, within("s", ("ann",), False), (1,)), (0, within("t", ("bob",)), (2,)),
            (0, within("s", "t"), ()),
            (0, within("s", "t"), (6,)), (0, same(WHO, ANN, False), (1,)), (3, within("s", ("bob",)), (2,)),
        ):
            self.assertIs(closes("listed", *step), False, step)
        self.assertIs(closes("listed", 3, within("s", ("bob",)), (5,)), True)

    def test_listed_with_an_empty_list(self):
        case = (member(WHO, "s"), within("s", ()))
        steps = (("given", case[0]), ("listed", 0, case[1], ()))
        self.assertEqual(facts_of(case, steps), [case[0], None])
        self.assertIs(is_closed(case, steps), True)
        self.assertIs(is_closed(case, steps[:1] + (("listed", 0, case[1], (0,)),)), False)
        self.assertIs(is_closed(case[:1], steps), False)
        self.assertIs(is_closed(case[1:], steps), False)

    def test_where_closing_steps_stand(self):
        case = (same(WHO, ANN), same(WHO, ANN, False))
        one, two = (("given", literal) for literal in case)
        clash = ("clash", 0, 1)
        self.assertIs(is_closed(case, (one, two, clash)), True)
        self.assertIs(is_closed(case, (two, one, clash)), True)
        self.assertIs(is_closed(case, (one, two, ("same", BOB), clash)), True)
        self.assertIs(is_closed(case, (one, two)), False)
        self.assertEqual(facts_of(case, (one, two, clash, ("same", BOB))), [*case, None, same(BOB, BOB)])
        self.assertIs(is_closed(case, (one, two, clash, ("same", BOB))), False)
        self.assertEqual(facts_of(case, (one, two, clash, clash)), [*case, None, None])
        self.assertIs(is_closed(case, (one, two, clash, clash)), False)
        self.assertIs(is_closed(case, (one, two, clash, ("same", BOB), clash)), False)

    def test_the_example(self):
        case = (same(WHO, ANN), member(WHO, "banned"))
        steps = (("given", case[0]), ("turn", 0), ("given", case[1]), ("join", 1, 2))
        self.assertEqual(facts_of(case, steps)[3], member(ANN, "banned"))

    def test_the_returned_list_is_the_callers(self):
        facts = facts_of(LITERALS, GIVEN)
        expected = list(facts)
        facts.clear()
        self.assertEqual(facts_of(LITERALS, GIVEN), expected)
        facts_of(LITERALS, GIVEN).append("more")
        self.assertEqual(facts_of(LITERALS, GIVEN), expected)


def saturated(case):
    """All facts about the terms of a case, by one round of all steps after the other."""
    facts = {literal for literal in case if literal[0][0] in ("is", "in")}
    terms = {BLANK}
    for (kind, s, target, *_), truth in case:
        if kind == "within" and not truth:
            facts.add(member(("other", s, target), s))
            if target[0] == "set":
                facts.add(member(("other", s, target), target[1], False))
            else:
                facts.update(same(("other", s, target), ("name", word), False) for word in target[1])
        if kind == "within" and target[0] == "names":
            terms.update(("name", word) for word in target[1])
    for (kind, t, u), _ in facts:
        terms.update((t, u) if kind == "is" else (t,))
    terms.update(("part", t[1], index) for t in list(terms) if t[0] == "part" for index in range(6))
    names = [t for t in terms if t[0] == "name"]
    facts.update(same(t, t) for t in terms)
    facts.update(same(t, u, False) for t in names for u in names if t != u)
    before = None
    while before != len(facts):
        before = len(facts)
        facts |= next_round(case, facts)
    return facts


def next_round(case, facts):
    found = set()
    about = {}
    for fact in facts:
        about.setdefault(fact[0][1], []).append(fact)
    for (kind, t, u), truth in facts:
        if kind == "is":
            found.add(same(u, t, truth))
        if kind == "is" and truth:
            found.update(((second[0], t, second[2]), also) for second, also in about.get(u, ()))
            if t[0] == "part" and u == BLANK and t[2] < 6:
                found.add(same(part(t[2] + 1, t[1]), BLANK))
        if kind == "in" and truth:
            found.add(same(t, BLANK, False))
            found.update(
                member(t, target[1]) for (kind, s, target, *_), holds in case
                if kind == "within" and holds and s == u and target[0] == "set"
            )
    return found


def can_be_closed(case):
    facts = saturated(case)
    if any((fact, not truth) in facts for fact, truth in facts):
        return True
    return any(
        all(same(t, ("name", word), False) in facts for word in target[1])
        for (kind, t, s), truth in facts if kind == "in" and truth
        for (other_kind, field, target, *_), holds in case
        if other_kind == "within" and holds and field == s and target[0] == "names"
    )


class FindStepsTest(unittest.TestCase):
    # Literals that have nothing to do with the others.
    BESIDE = (
        same(("field", "x"), ("field", "y"), False), member(("field", "x"), "xs"), within("xs", "ys"),
        within("ys", "xs", False), within("zs", ("a", "b", "c")), within("zs", (), False), same(part(2, "z"), BLANK),
        same(part(1, "z"), BLANK, False), (("most", "x", "y", 3), True), (("most", "x", "y", 3), False),
    )

    # Cases that no request meets, with the kinds of the steps without which they are not closed.
    CLOSED = (
        (("clash",), same(WHO, ANN), same(WHO, ANN, False)),
        (("join", "unlike"), same(WHO, ANN), same(WHO, BOB)),
        (("join", "unlike"), same(WHO, ANN), same(WHO, BLANK)),
        (("join", "turn"), same(WHO, OWNER), same(OWNER, MAKER), same(MAKER, WHO, False)),
        (("end",), same(part(1), BLANK), same(part(4), ANN)),
        (("end",), same(part(0), BLANK), same(part(40), BLANK, False)),
        (("end",), same(part(0), part(3)), same(WHO, part(3)), same(WHO, BLANK), member(part(1), "s")),
        (("end",), same(part(0), BLANK), same(part(3), part(1, "q")), same(part(2, "q"), ANN)),
        (("filled",), member(WHO, "s"), same(WHO, BLANK)),
        (("clash",), member(WHO, "s"), member(WHO, "s", False)),
        (("join",), member(WHO, "s"), same(WHO, OWNER), member(OWNER, "s", False)),
        (("pass",), member(WHO, "s"), within("s", "t"), within("t", "u"), member(WHO, "u", False)),
        (("over", "beyond", "pass"), within("s", "u", False), within("s", "t"), within("t", "u")),
        (("beyond",), within("s", ("ann",), False), same(other("s", ("ann",)), ANN)),
        (("over", "listed"), within("s", "t", False), within("s", ())),
        (("over", "beyond", "listed"), within("s", ("ann", "bob"), False), within("s", ("ann",))),
        (("listed",), member(WHO, "s"), within("s", ("ann", "bob")), same(WHO, ANN, False), same(WHO, BOB, False)),
        (("listed", "unlike"), member(WHO, "s"), within("s", ("ann", "bob")), same(WHO, ("name", "cid"))),
        (("listed", "unlike"), member(ANN, "s"), within("s", ("bob",))),
        (
            ("listed", "join"), member(WHO, "s"), within("s", ("ann", "bob")), same(OWNER, ANN), same(MAKER, BOB),
            same(WHO, MAKER, False), same(OWNER, WHO, False),
        ),
        (("filled", "over"), within("s", "t", False), same(other("s", "t"), BLANK)),
    )

    # Each of these is met by some request, or needs a split (point [36]).
    OPEN = (
        (), (same(WHO, ANN),), (same(WHO, ANN), same(OWNER, BOB)), (same(WHO, ANN, False), same(WHO, BOB, False)),
        (same(part(1), ANN), same(part(2), BLANK)), (same(part(0), BLANK), same(part(1, "q"), ANN)),
        (member(WHO, "s"), member(OWNER, "s", False)), (member(WHO, "s", False), same(WHO, BLANK)),
        (within("s", "t"), within("t", "s"), within("u", "s", False)), (within("s", ("ann",)), same(WHO, ANN, False)),
        (member(WHO, "t"), within("s", "t"), member(WHO, "s", False)), (within("s", ()), within("s", "t")),
        (member(WHO, "s"), within("s", ("ann", "bob")), same(WHO, ANN, False)),
        ((("most", "x", "y", 3), True), (("most", "x", "y", 3), False)),
        # Split by whether "who" is "ann", this closes; of its own it does not.
        (member(WHO, "s"), within("s", ("ann",)), member(ANN, "t", False), within("s", "t")),
        (member(WHO, "s"), member(OWNER, "s"), same(OWNER, WHO, False), within("s", ("ann",))),
    )

    def closes(self, case):
        steps = find_steps(case)
        self.assertIsInstance(steps, tuple)
        self.assertIs(is_closed(case, steps), True, case)
        return steps

    def test_each_kind_of_step(self):
        for kinds, *literals in self.CLOSED:
            steps = self.closes(tuple(literals))
            self.assertLessEqual(set(kinds), {step[0] for step in steps})

    def test_any_order_and_literals_beside(self):
        dice = random.Random(34)
        for _, *literals in self.CLOSED:
            for _ in range(5):
                case = literals + list(self.BESIDE)
                dice.shuffle(case)
                steps = self.closes(tuple(case))
                used = {step[1] for step in steps if step[0] == "given"}
                self.assertFalse(used & set(self.BESIDE))

    def test_one_literal_fewer(self):
        for _, *literals in self.CLOSED:
            for place in range(len(literals)):
                case = tuple(literals[:place] + literals[place + 1:])
                self.assertEqual(find_steps(case), () if not can_be_closed(case) else self.closes(case))

    def test_cases_that_do_not_close(self):
        for case in self.OPEN:
            self.assertEqual(find_steps(case), ())
            self.assertEqual(find_steps(case + self.BESIDE), ())
            self.assertEqual(find_steps(self.BESIDE + case[::-1]), ())

    def test_random_cases(self):
        dice = random.Random(35)
        closed = 0
        for _ in range(2500):
            case = random_case(dice, dice.randrange(1, 11), with_others=True)
            steps = find_steps(case)
            self.assertEqual(steps != (), can_be_closed(case), case)
            if steps:
                closed += 1
                self.closes(case)
        self.assertGreater(closed, 300)
        self.assertLess(closed, 2000)

    def test_no_request_meets_a_closed_case(self):
        dice = random.Random(36)
        closed = 0
        for _ in range(1500):
            case = random_case(dice, dice.randrange(1, 9))
            if find_steps(case):
                closed += 1
                self.assertIs(is_possible(case), False)
        self.assertGreater(closed, 200)

    def test_many_literals(self):
        fields = [("field", "f" + letter) for letter in "abcdefghijklmnopqrstuvwxyz"]
        chain = [same(t, u) for t, u in zip(fields, fields[1:])]
        sets = [within("s" + v, "s" + w) for v, w in zip("abcdefghijklmnopqrst", "bcdefghijklmnopqrstu")]
        case = (*chain, *sets, member(fields[0], "sa"), member(fields[-1], "su", False))
        self.closes(case)
        self.closes(case[::-1])
        for place in (0, 10, len(chain), len(case) - 1):
            self.assertEqual(find_steps(case[:place] + case[place + 1:]), ())


if __name__ == "__main__":
    unittest.main()
