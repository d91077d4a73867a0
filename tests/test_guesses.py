import itertools
import random
import unittest

from questions import BLANK, NO, OWNER, POOLS, WHO, WIDE, YES, name, part, primitive_condition, random_view
from samples import random_request
from whomaywhat.atoms import literal_of, makes_true
from whomaywhat.conditions import holds
from whomaywhat.guesses import guess, sure_verdict
from whomaywhat.rules import decide
from whomaywhat.views import question_atoms

BIG = 10 ** 50
# Conditions that reduce to a literal, and that literal.
REDUCED = (
    (("is", WHO, name("ann")), (("is", WHO, name("ann")), True)),
    (("is", name("ann"), WHO), (("is", WHO, name("ann")), True)),
    (("is", WHO, BLANK), (("is", WHO, BLANK), True)),
    (("is", WHO, OWNER), (("is", OWNER, WHO), True)),
    (("is", part(1), WHO), (("is", WHO, part(1)), True)),
    (("in", WHO, "s"), (("in", WHO, "s"), True)),
    (("in", name("ann"), "s"), (("in", name("ann"), "s"), True)),
    (("within", "s", ("set", "t")), (("within", "s", ("set", "t")), True)),
    (("within", "s", ("names", ("a", "b"))), (("within", "s", ("names", ("a", "b"))), True)),
    (("most", "x", "y", 3), (("most", "x", "y", 3), True)),
    (("most", "y", "x", 3), (("most", "x", "y", -4), False)),
    (("most", "x", "", BIG), (("most", "", "x", -BIG - 1), False)),
    (("most", "", "x", -BIG), (("most", "", "x", -BIG), True)),
)
# Conditions that reduce to True or to False.
FIXED = (
    (YES, True), (NO, False), (("is", WHO, WHO), True), (("is", name("a"), name("a")), True),
    (("is", BLANK, BLANK), True), (("is", name("a"), name("b")), False), (("is", BLANK, name("a")), False),
    (("in", BLANK, "s"), False), (("within", "s", ("set", "s")), True), (("most", "x", "x", 0), True),
    (("most", "x", "x", -1), False), (("most", "", "", BIG), True), (("most", "", "", -BIG), False),
)
MORE = ((("in", OWNER, "t"), True), (("is", OWNER, name("zoe")), False))
KNOWN = ("in", WHO, "yes"), ("in", WHO, "no")
CASE = ((KNOWN[0], True), (KNOWN[1], False))
T, F, U = KNOWN[0], KNOWN[1], ("in", WHO, "unknown")


class GuessTest(unittest.TestCase):
    def test_conditions_without_a_literal(self):
        for condition, value in FIXED:
            for case in ((), MORE, CASE):
                self.assertIs(guess(condition, case), value, condition)
                self.assertIs(guess(("not", condition), case), not value, condition)

    def test_simple_conditions(self):
        for condition, (atom, truth) in REDUCED:
            self.assertEqual(literal_of(condition), (atom, truth))
            self.assertIsNone(guess(condition, ()))
            self.assertIsNone(guess(condition, MORE))
            for told in (True, False):
                for case in (((atom, told),), MORE + ((atom, told),), ((atom, told),) + MORE):
                    self.assertIs(guess(condition, case), told == truth, (condition, case))
                    self.assertIs(guess(("not", condition), case), told != truth)

    def test_other_atoms_tell_nothing(self):
        atoms = [literal[0] for _, literal in REDUCED]
        for condition, (atom, _) in REDUCED:
            case = tuple((other, True) for other in atoms if other != atom)
            self.assertIsNone(guess(condition, case))
        # Only the atom itself counts, not what follows from the case.
        self.assertIsNone(guess(("most", "x", "y", 4), ((("most", "x", "y", 3), True),)))
        self.assertIsNone(guess(("is", WHO, name("b")), ((("is", WHO, name("a")), True),)))
        self.assertIsNone(guess(("is", WHO, BLANK), ((("in", WHO, "s"), True),)))

    def test_the_first_literal_counts(self):
        for condition, (atom, truth) in REDUCED:
            for told in (True, False):
                case = (*MORE, (atom, told), (atom, not told), *MORE, (atom, not told))
                self.assertIs(guess(condition, case), told == truth)

    def test_literals_with_other_terms(self):
        case = (
            (("is", ("name", "a"), ("other", "s", ("set", "t"))), True),
            (("in", ("other", "s", ("set", "t")), "s"), True),
        )
        self.assertIsNone(guess(("in", WHO, "s"), case))
        self.assertIs(guess(("in", WHO, "s"), (*case, (("in", WHO, "s"), False))), False)

    def test_not(self):
        self.assertIsNone(guess(("not", U), CASE))
        self.assertIsNone(guess(("not", ("not", U)), CASE))
        self.assertIs(guess(("not", T), CASE), False)
        self.assertIs(guess(("not", F), CASE), True)
        self.assertIs(guess(("not", ("not", T)), CASE), True)

    def test_all_and_any(self):
        for kind, conditions, expected in (
            ("all", (), True), ("all", (T,), True), ("all", (F,), False), ("all", (U,), None),
            ("all", (T, U), None), ("all", (F, U), False), ("all", (T, T), True), ("all", (F, F), False),
            ("all", (U, U), None), ("all", (T, F), False), ("all", (T, U, F), False), ("all", (T, U, T), None),
            ("any", (), False), ("any", (T,), True), ("any", (F,), False), ("any", (U,), None),
            ("any", (T, U), True), ("any", (F, U), None), ("any", (T, T), True), ("any", (F, F), False),
            ("any", (U, U), None), ("any", (T, F), True), ("any", (F, U, T), True), ("any", (F, U, F), None),
        ):
            for order in itertools.permutations(conditions):
                self.assertIs(guess((kind, order), CASE), expected, (kind, order))

    def test_nested(self):
        self.assertIs(guess(("all", (("any", (U, T)), ("not", ("all", (F, U))))), CASE), True)
        self.assertIsNone(guess(("all", (("any", (U, F)), ("not", ("all", (F, U))))), CASE))
        self.assertIs(guess(("any", (("all", (U, F)), ("not", ("any", (U, T))))), CASE), False)
        # A condition and its opposite do not decide each other.
        self.assertIsNone(guess(("any", (U, ("not", U))), CASE))

    def test_against_requests(self):
        """A guess that is not None is right, and stays in a longer case."""
        dice = random.Random(40)
        items = {
            **WIDE, "terms": (WHO, ("field", "s"), part(0, "thing"), part(1, "thing"), BLANK, name("a"), name("b")),
        }
        items = {**items, "sets": ("who", "s", "t"), "words": "ab", "numbers": ("", "s", "who"), "most": 6}
        told = {True: 0, False: 0, None: 0}
        for _ in range(1500):
            condition = primitive_condition(dice, items, 4)
            atoms = list(question_atoms((), (), condition))
            atoms += question_atoms((), (), primitive_condition(dice, items, 3))
            request = random_request(dice)
            dice.shuffle(atoms)
            case, before = (), guess(condition, ())
            for atom in atoms:
                value = guess(condition, case)
                told[value] += 1
                self.assertIn(before, (None, value))
                self.assertIn(value, (None, holds(condition, request)))
                before = value
                case += ((atom, makes_true(request, (atom, True))),)
            self.assertIs(guess(condition, case), holds(condition, request))
        self.assertGreater(min(told.values()), 200)


def rule(word, effect, rank, condition):
    return (word, effect, rank, condition)


class SureVerdictTest(unittest.TestCase):
    def verdict(self, expected, *rows):
        """The rows are effect, rank and condition; the order of the rules is that of their names."""
        for order in itertools.permutations(rows):
            view = tuple(rule("abcdefg"[place], *row) for place, row in enumerate(order))
            self.assertEqual(sure_verdict(view, CASE), expected, view)

    def test_no_rule(self):
        self.assertEqual(sure_verdict((), ()), "refuse")
        self.assertEqual(sure_verdict((), CASE), "refuse")

    def test_one_rule(self):
        for rank in (0, 5, -5, BIG, -BIG):
            self.verdict("permit", ("permit", rank, T))
            self.verdict("refuse", ("permit", rank, F))
            self.verdict(None, ("permit", rank, U))
            for condition in (T, F, U):
                self.verdict("refuse", ("forbid", rank, condition))

    def test_two_rules_of_the_same_rank(self):
        for rank in (0, -3, BIG):
            for one, other, expected in (
                (T, T, "refuse"), (T, F, "permit"), (T, U, None), (F, T, "refuse"), (F, F, "refuse"), (F, U, "refuse"),
                (U, T, "refuse"), (U, F, None), (U, U, None),
            ):
                self.verdict(expected, ("permit", rank, one), ("forbid", rank, other))
            for one, other, expected in (
                (T, T, "permit"), (T, F, "permit"), (T, U, "permit"), (U, U, None), (U, F, None), (F, F, "refuse"),
            ):
                self.verdict(expected, ("permit", rank, one), ("permit", rank, other))

    def test_two_rules_of_different_rank(self):
        for low, high in ((0, 1), (-2, -1), (-BIG, BIG), (BIG, BIG + 1), (-BIG - 1, -BIG)):
            for upper, lower, expected in (
                (T, T, "permit"), (T, U, "permit"), (U, T, None), (U, F, None), (U, U, None), (F, T, "refuse"),
                (F, U, "refuse"), (T, F, "permit"),
            ):
                self.verdict(expected, ("permit", high, upper), ("forbid", low, lower))
            for upper, lower, expected in (
                (T, T, "refuse"), (T, U, "refuse"), (U, T, None), (U, F, "refuse"), (U, U, None), (F, T, "permit"),
                (F, U, None), (T, F, "refuse"),
            ):
                self.verdict(expected, ("forbid", high, upper), ("permit", low, lower))

    def test_undecided_rules_that_do_not_matter(self):
        self.verdict("permit", ("permit", 1, T), ("permit", 2, U), ("forbid", 0, U), ("forbid", 0, T))
        self.verdict("refuse", ("forbid", 1, T), ("permit", 1, U), ("permit", 0, U), ("forbid", 2, U))
        self.verdict("refuse", ("forbid", 1, T), ("permit", 1, T), ("permit", 0, U), ("forbid", 2, U))
        self.verdict(None, ("forbid", 1, T), ("permit", 2, U))
        self.verdict(None, ("permit", 1, T), ("forbid", 1, U))
        self.verdict("refuse", ("forbid", 1, U), ("forbid", 2, U), ("permit", 1, F))
        self.verdict(None, ("permit", 0, U), ("permit", 1, U))
        self.verdict("permit", ("permit", 0, T), ("permit", 1, U))

    def expected_verdict(self, view, case):
        guesses = [guess(one[3], case) for one in view]
        choices = [(True, False) if value is None else (value,) for value in guesses]
        verdicts = set()
        for choice in itertools.product(*choices):
            applied = [(*one[:3], YES) for one, value in zip(view, choice) if value]
            verdicts.add(decide(applied, ((), (), (), ()))[0])
        return verdicts.pop() if len(verdicts) == 1 else None

    def test_all_choices(self):
        dice = random.Random(41)
        seen = {"permit": 0, "refuse": 0, None: 0}
        for _ in range(3000):
            ranks = dice.choice(((0,), (0, 1), (-1, 0, 1), (-BIG, 0, BIG)))
            view = tuple(
                (word, dice.choice(("permit", "forbid")), dice.choice(ranks), dice.choice((T, F, U, U)))
                for word in sorted(dice.sample("abcdefgh", dice.randrange(7)))
            )
            verdict = sure_verdict(view, CASE)
            seen[verdict] += 1
            self.assertEqual(verdict, self.expected_verdict(view, CASE), view)
        self.assertGreater(min(seen.values()), 300)

    def test_random_views(self):
        dice = random.Random(42)
        for _ in range(600):
            items = dice.choice(POOLS)
            view = random_view(dice, items, 5)
            atoms = question_atoms(view, (), YES)
            case = tuple((atom, dice.random() < 0.5) for atom in atoms if dice.random() < 0.6)
            self.assertEqual(sure_verdict(view, case), self.expected_verdict(view, case))

    def test_all_atoms_told(self):
        """With all atoms the sure verdict is the verdict on every request that meets the case."""
        dice = random.Random(43)
        items = {**WIDE, "terms": (WHO, part(0, "thing"), BLANK, name("a")), "sets": ("who", "s"), "words": "ab"}
        items = {**items, "numbers": ("", "s", "who"), "most": 6}
        for _ in range(500):
            view = random_view(dice, items, 5)
            request = random_request(dice)
            case = tuple((atom, makes_true(request, (atom, True))) for atom in question_atoms(view, (), YES))
            self.assertEqual(sure_verdict(view, case), decide(view, request)[0])


if __name__ == "__main__":
    unittest.main()
