import random
import unittest

from questions import (
    BLANK, NO, OWNER, POOLS, WHO, YES, answers, branches, is_taken, name, open_cases, part, random_question,
    whole_paper,
)
from whomaywhat.models import least_model
from whomaywhat.papers import judge
from whomaywhat.requests import make_request
from whomaywhat.views import question_atoms

BIG = 10 ** 60
EVERYTHING = (("a", "permit", 0, YES),)
NOTHING = (("a", "forbid", 0, YES),)


def permits(condition):
    return (("a", "permit", 0, condition),)


def forbids(condition):
    return (("a", "permit", 0, YES), ("b", "forbid", 0, condition))


def split(atom):
    return ("split", atom)


def same(t, u, truth=True):
    return (("is", min(t, u), max(t, u)), truth)


IN = ("in", WHO, "s")
FIVE, TEN = ("most", "", "size", -5), ("most", "", "size", -10)
OUTSIDE, LEFT, RIGHT = ("outside",), ("left",), ("right",)


class JudgeTest(unittest.TestCase):
    def judged(self, expected, left, right, where, *paper):
        self.assertIs(judge(left, right, where, paper), expected)
        self.assertIs(is_taken((left, right, where), paper), expected)

    def takes(self, *question_and_paper):
        self.judged(True, *question_and_paper)

    def rejects(self, *question_and_paper):
        self.judged(False, *question_and_paper)

    def test_the_examples(self):
        left = (("few", "permit", 0, ("most", "size", "", 4)),)
        right = (("many", "permit", 0, ("most", "size", "", 9)),)
        ring = ("ring", ((FIVE, False), (TEN, True)))
        self.takes(left, right, YES, split(FIVE), LEFT, split(TEN), ring, RIGHT)
        self.rejects(left, (), YES, split(FIVE), LEFT, RIGHT)
        self.assertIs(
            judge(left, right, ("true",), (("split", FIVE), ("left",), ("split", TEN), ring, ("right",))), True,
        )
        self.assertIs(judge(left, (), ("true",), (("split", ("most", "", "size", -5)), ("left",), ("right",))), False)

    def test_no_line_and_lines_without_a_case(self):
        for question in ((EVERYTHING, NOTHING, YES), (NOTHING, EVERYTHING, YES), ((), (), NO)):
            self.rejects(*question)
        self.takes((), (), NO, OUTSIDE)
        for line in (OUTSIDE, LEFT, split(IN), ("ring", ()), ("steps", ())):
            self.rejects((), (), NO, OUTSIDE, line)
            self.rejects((), (), NO, OUTSIDE, line, line, line)

    def test_a_line_too_few_or_too_many(self):
        left, right = permits(IN), permits(IN)
        self.takes(left, right, YES, split(IN), RIGHT, LEFT)
        self.rejects(left, right, YES, split(IN), RIGHT)
        self.rejects(left, right, YES, split(IN))
        self.rejects(left, right, YES, split(IN), RIGHT, LEFT, LEFT)
        self.rejects(left, right, YES, split(IN), RIGHT, LEFT, RIGHT)
        self.rejects(left, right, YES, split(IN), RIGHT, LEFT, split(IN))
        self.rejects(left, right, YES, split(IN), RIGHT, split(("in", WHO, "t")), LEFT)

    def test_the_lines_about_the_true_case_come_first(self):
        left, right = permits(IN), permits(IN)
        self.rejects(left, right, YES, split(IN), LEFT, RIGHT)
        self.takes(left, (), ("not", IN), split(IN), OUTSIDE, LEFT)
        self.rejects(left, (), ("not", IN), split(IN), LEFT, OUTSIDE)
        one, other = ("in", WHO, "s"), ("in", WHO, "t")
        left = permits(("all", (one, other)))
        self.takes(left, left, YES, split(one), split(other), RIGHT, LEFT, LEFT)
        self.rejects(left, left, YES, split(one), LEFT, split(other), RIGHT, LEFT)
        left = permits(("any", (one, other)))
        self.takes(left, left, YES, split(one), RIGHT, split(other), RIGHT, LEFT)
        self.rejects(left, left, YES, split(one), split(other), RIGHT, RIGHT, LEFT)

    def test_outside(self):
        self.takes(EVERYTHING, NOTHING, NO, OUTSIDE)
        self.takes(EVERYTHING, NOTHING, ("any", ()), OUTSIDE)
        self.takes(EVERYTHING, NOTHING, ("all", (IN, NO)), OUTSIDE)
        self.takes(EVERYTHING, NOTHING, ("is", name("a"), name("b")), OUTSIDE)
        self.rejects(NOTHING, EVERYTHING, YES, OUTSIDE)
        self.rejects(NOTHING, EVERYTHING, IN, OUTSIDE)
        self.rejects(NOTHING, EVERYTHING, ("all", (IN, ("not", IN))), OUTSIDE)
        self.takes(EVERYTHING, NOTHING, ("all", (IN, ("not", IN))), split(IN), OUTSIDE, OUTSIDE)
        self.rejects(EVERYTHING, NOTHING, IN, split(IN), OUTSIDE, OUTSIDE)

    def test_left(self):
        self.takes((), (), YES, LEFT)
        self.takes(NOTHING, NOTHING, YES, LEFT)
        self.takes(permits(NO), (), YES, LEFT)
        self.takes((("a", "permit", 0, IN), ("b", "forbid", 0, YES)), (), YES, LEFT)
        self.rejects(EVERYTHING, EVERYTHING, NO, LEFT)
        self.rejects(permits(IN), EVERYTHING, YES, LEFT)
        self.rejects((("a", "permit", 1, IN), ("b", "forbid", 0, YES)), EVERYTHING, YES, LEFT)
        self.rejects(EVERYTHING, (), YES, LEFT)

    def test_right(self):
        self.takes(EVERYTHING, EVERYTHING, YES, RIGHT)
        self.takes(EVERYTHING, (("a", "permit", 1, YES), ("b", "forbid", 0, IN)), YES, RIGHT)
        self.rejects(EVERYTHING, (), YES, RIGHT)
        self.rejects(EVERYTHING, NOTHING, YES, RIGHT)
        self.rejects(EVERYTHING, permits(IN), YES, RIGHT)
        self.rejects((), forbids(IN), NO, RIGHT)
        self.rejects(EVERYTHING, (), NO, RIGHT)

    def test_ring(self):
        ring = ((FIVE, False), (TEN, True))
        self.takes(
            EVERYTHING, (), ("all", (("not", FIVE), TEN)), split(FIVE), OUTSIDE, split(TEN), ("ring", ring), OUTSIDE,
        )
        where = ("all", (("not", FIVE), TEN))
        for literals in (
            ring[::-1], ring + ring, ring * 3, ring[1:] + ring[:1],
        ):
            self.takes(EVERYTHING, (), where, split(FIVE), OUTSIDE, split(TEN), ("ring", literals), OUTSIDE)
        for literals in (
            (), ring[:1], ring[1:], ((FIVE, True), (TEN, False)), ((FIVE, True), (TEN, True)), ring + ring[:1],
            ((FIVE, False), (("most", "", "size", -11), True)), ((("most", "", "size", -4), False), (TEN, True)),
        ):
            self.rejects(EVERYTHING, (), where, split(FIVE), OUTSIDE, split(TEN), ("ring", literals), OUTSIDE)

    def test_a_ring_that_does_not_belong_to_the_case(self):
        ring = ((FIVE, False), (TEN, True))
        self.rejects(EVERYTHING, (), YES, ("ring", ring))
        self.rejects(EVERYTHING, (), YES, split(FIVE), ("ring", ring), split(TEN), ("ring", ring), LEFT)
        # In the branch of the false case of the second split, its true literal does not belong.
        where = ("all", (("not", FIVE), TEN))
        self.rejects(EVERYTHING, (), where, split(FIVE), OUTSIDE, split(TEN), ("ring", ring), ("ring", ring))

    def test_a_ring_of_other_literals(self):
        case = (split(IN), ("ring", ((IN, True),)), ("ring", ((IN, False),)))
        self.assertIs(judge(EVERYTHING, (), YES, case), False)
        atom = ("within", "s", ("set", "t"))
        self.assertIs(judge(EVERYTHING, (), YES, (split(atom), ("ring", ((atom, True), (atom, False))), LEFT)), False)
        self.assertIs(
            judge(EVERYTHING, (), YES, (split(same(WHO, BLANK)[0]), ("ring", (same(WHO, BLANK),)), LEFT)), False,
        )

    def test_huge_rings(self):
        low, high = ("most", "x", "y", -BIG), ("most", "x", "y", BIG)
        where = ("all", (low, ("not", high)))
        ring = ((low, True), (high, False))
        self.takes(EVERYTHING, (), where, split(low), split(high), OUTSIDE, ("ring", ring), OUTSIDE)
        self.rejects(EVERYTHING, (), where, split(low), split(high), ("ring", ring), ("ring", ring), OUTSIDE)

    def test_steps(self):
        ann, bob = same(WHO, name("ann"))[0], same(WHO, name("bob"))[0]
        where = ("all", (ann, bob))
        steps = (
            ("given", (ann, True)), ("turn", 0), ("given", (bob, True)), ("join", 1, 2), ("unlike", "ann", "bob"),
            ("clash", 3, 4),
        )
        self.takes(EVERYTHING, (), where, split(ann), split(bob), ("steps", steps), OUTSIDE, OUTSIDE)
        self.takes(EVERYTHING, (), where, split(bob), split(ann), ("steps", steps), OUTSIDE, OUTSIDE)
        for wrong in (
            (), steps[:-1], steps[:3] + steps[4:], steps + steps[-1:], (*steps[:-1], ("clash", 3, 3)),
            (*steps[:-1], ("clash", 3, 5)), (*steps[:-1], ("clash", -2, -1)),
            (*steps[:4], ("unlike", "ann", "ann"), steps[-1]),
            (("given", (ann, False)), *steps[1:]),
        ):
            self.rejects(EVERYTHING, (), where, split(ann), split(bob), ("steps", wrong), OUTSIDE, OUTSIDE)

    def test_steps_with_literals_that_do_not_belong_to_the_case(self):
        ann, bob = same(WHO, name("ann"))[0], same(WHO, name("bob"))[0]
        steps = (
            ("given", (ann, True)), ("turn", 0), ("given", (bob, True)), ("join", 1, 2), ("unlike", "ann", "bob"),
            ("clash", 3, 4),
        )
        self.rejects(EVERYTHING, (), YES, ("steps", steps))
        self.rejects(EVERYTHING, (), ann, split(ann), ("steps", steps), OUTSIDE)
        self.rejects(EVERYTHING, (), bob, split(bob), ("steps", steps), OUTSIDE)
        where = ("all", (ann, bob))
        self.rejects(EVERYTHING, (), where, split(ann), split(bob), OUTSIDE, ("steps", steps), OUTSIDE)
        self.rejects(EVERYTHING, (), where, split(ann), split(bob), ("steps", steps), ("steps", steps), OUTSIDE)
        # Only in the case do literals count, not in the atoms of the question.
        self.rejects(permits(where), (), YES, ("steps", steps))

    def test_splits_on_atoms_that_are_not_in_their_one_form(self):
        for atom in (
            ("is", name("ann"), WHO), ("is", WHO, WHO), ("is", name("a"), name("b")), ("is", name("b"), name("a")),
            ("is", part(0), OWNER), ("in", BLANK, "s"), ("within", "s", ("set", "s")), ("most", "x", "", 0),
            ("most", "x", "x", 0), ("most", "", "", -1), ("most", "y", "x", 3),
        ):
            self.rejects((), (), NO, split(atom), OUTSIDE, OUTSIDE)
        for atom in (
            ("is", WHO, name("ann")), ("is", OWNER, part(0)), ("in", name("a"), "s"), ("within", "s", ("set", "t")),
            ("within", "s", ("names", ())), ("most", "", "x", 0), ("most", "x", "y", 3),
        ):
            self.takes((), (), NO, split(atom), OUTSIDE, OUTSIDE)

    def test_splits_on_what_is_no_atom(self):
        for condition in (YES, NO, ("not", IN), ("all", (IN, IN)), ("any", (IN,)), ("all", ())):
            self.assertIs(judge((), (), NO, (split(condition), OUTSIDE, OUTSIDE)), False)

    def test_splits_on_atoms_that_the_question_does_not_have(self):
        left = permits(IN)
        for atom in (("in", OWNER, "t"), ("most", "", "x", BIG), ("is", name("a"), ("other", "s", ("set", "t")))):
            self.takes(left, left, YES, split(atom), split(IN), RIGHT, LEFT, split(IN), RIGHT, LEFT)
            self.takes(left, left, YES, split(IN), split(atom), RIGHT, RIGHT, LEFT)
            self.rejects(left, left, YES, split(atom), RIGHT, LEFT)

    def test_other_terms(self):
        within = ("within", "s", ("names", ("ann",)))
        other = ("other", "s", ("names", ("ann",)))
        known = ("is", name("ann"), other)
        steps = (
            ("beyond", (within, False), "ann"), ("given", (known, True)), ("turn", 1), ("clash", 0, 2),
        )
        where = ("all", (("not", within), IN))
        # The split on the other term helps nobody, but the judge takes what is right.
        left = permits(("not", within))
        self.takes(
            left, left, where, split(within), OUTSIDE, split(known), ("steps", steps), split(IN), RIGHT, OUTSIDE,
        )
        self.rejects(left, left, where, split(within), split(known), ("steps", steps), OUTSIDE, RIGHT)

    def test_the_same_atom_split_twice(self):
        left = permits(IN)
        clash = ("steps", (("given", (IN, True)), ("given", (IN, False)), ("clash", 0, 1)))
        # The first literal counts for guesses; the second case has both, and steps can close it.
        self.takes(left, left, YES, split(IN), split(IN), RIGHT, clash, LEFT)
        self.takes(left, left, YES, split(IN), split(IN), RIGHT, RIGHT, LEFT)
        self.takes(left, left, YES, split(IN), RIGHT, split(IN), LEFT, LEFT)
        self.takes(left, left, YES, split(IN), RIGHT, split(IN), clash, LEFT)
        self.rejects(left, left, YES, split(IN), RIGHT, split(IN), RIGHT, LEFT)
        self.rejects(left, left, YES, split(IN), split(IN), RIGHT, LEFT, LEFT)
        self.rejects(left, left, YES, split(IN), split(IN), clash, RIGHT, LEFT)

    def test_views_with_ranks(self):
        left = (("a", "permit", 1, IN), ("b", "forbid", 0, YES))
        right = (("a", "permit", -BIG, YES), ("b", "forbid", BIG, ("not", IN)))
        self.takes(left, right, YES, split(IN), RIGHT, LEFT)
        self.rejects(left, right, YES, split(IN), RIGHT, RIGHT)
        self.takes(right, left, YES, split(IN), RIGHT, LEFT)

    def test_kinds_of_values(self):
        self.assertIs(judge((), (), YES, (LEFT,)), True)
        self.assertIs(judge((), (), YES, ()), False)


def corrupted(dice, paper, others):
    """The paper with a few lines left out, doubled, exchanged or replaced by other lines."""
    lines = list(paper)
    for _ in range(dice.randrange(1, 3)):
        at = dice.randrange(len(lines) + 1)
        if not lines or dice.random() < 0.3:
            lines.insert(at, dice.choice(others))
        elif dice.random() < 0.4:
            lines[at - 1] = dice.choice(others)
        elif dice.random() < 0.6:
            other = dice.randrange(len(lines))
            lines[at - 1], lines[other] = lines[other], lines[at - 1]
        else:
            del lines[at - 1]
    return tuple(lines)


class RandomPaperTest(unittest.TestCase):
    def requests(self, dice):
        words, few = ("a", "b", "z"), lambda: [word for word in ("a", "b", "z") if dice.random() < 0.4]
        return make_request(
            words=[(field, dice.choice(("", *words))) for field in ("who", "owner")],
            paths=[("p", [dice.choice(words) for _ in range(dice.randrange(4))])],
            sets=[(field, few()) for field in "st"], numbers=[(field, dice.randint(-10, 10)) for field in "xy"],
        )

    def test_papers_of_small_questions(self):
        """A question has an answer, or a paper that is taken, and not both."""
        dice = random.Random(45)
        taken = answered = 0
        for _ in range(700):
            items = dice.choice(POOLS)
            left, right, where = random_question(dice, items, 2)
            if len(question_atoms(left, right, where)) > 7:
                continue
            paper = whole_paper(left, right, where)
            models = [least_model((), case) for case in open_cases(paper)]
            if paper and not models:
                taken += 1
                self.assertIs(judge(left, right, where, paper), True)
                self.assertIs(judge(left, right, where, paper[:-1]), False)
                self.assertIs(judge(left, right, where, paper + paper[-1:]), False)
                self.assertFalse([1 for _ in range(20) if answers(left, right, where, self.requests(dice))])
            elif "within" not in items["kinds"]:
                # Without lists each case without a ring and without steps is possible.
                answered += 1
                self.assertTrue(all(answers(left, right, where, model) for model in models))
        self.assertGreater(taken, 200)
        self.assertGreater(answered, 50)

    def test_corrupted_papers(self):
        dice = random.Random(46)
        seen = {True: 0, False: 0}
        for _ in range(500):
            question = random_question(dice, dice.choice(POOLS), 2)
            other = random_question(dice, dice.choice(POOLS), 2)
            if max(len(question_atoms(*question)), len(question_atoms(*other))) > 6:
                continue
            paper, strange = (
                [line for line in whole_paper(*one) if line[0] != "open"] for one in (question, other)
            )
            others = [OUTSIDE, LEFT, RIGHT, *paper, *strange]
            for _ in range(6):
                wrong = corrupted(dice, paper, others)
                verdict = judge(*question, wrong)
                self.assertIs(verdict, is_taken(question, wrong), (question, wrong))
                seen[verdict] += 1
                if verdict:
                    self.assertFalse([1 for _ in range(10) if answers(*question, self.requests(dice))])
        self.assertGreater(min(seen.values()), 60)

    def test_every_branch_ends_in_a_line_about_its_case(self):
        question = (permits(("any", (FIVE, IN))), permits(("any", (FIVE, IN))), YES)
        paper = whole_paper(*question)
        for line, case in branches(paper):
            self.assertIn(line[0], ("left", "right"))
            self.assertTrue(case)


if __name__ == "__main__":
    unittest.main()
