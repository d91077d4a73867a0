import random
import unittest

from questions import (
    NO, OWNER, POOLS, WHO, WIDE, YES, closing_candidates, line_is_right, name, open_cases, random_question,
    simple_condition, splits_twice,
)
from whomaywhat.atoms import is_atom
from whomaywhat.papers import judge
from whomaywhat.trimming import trimmed
from whomaywhat.views import question_atoms

ONE, TWO, THREE = ("in", WHO, "s"), ("in", WHO, "t"), ("in", WHO, "u")
OUTSIDE, LEFT, RIGHT = ("outside",), ("left",), ("right",)
EVERYTHING = (("a", "permit", 0, YES),)
ANN, BOB = name("ann"), name("bob")


def permits(condition):
    return (("a", "permit", 0, condition),)


def split(atom):
    return ("split", atom)


def within(*words):
    return ("within", "s", ("names", words))


def plainly_trimmed(question, paper):
    """The trimmed paper, told branch by branch."""
    return trimmed_branch(question, tuple(paper), ())[0]


def trimmed_branch(question, paper, case):
    """The lines and the used literals of the first branch, and the lines behind it."""
    line, rest = paper[0], paper[1:]
    if line[0] != "split":
        return (line,), used_by(question, line, case), rest
    atom = line[1]
    true_lines, true_used, rest = trimmed_branch(question, rest, (*case, (atom, True)))
    false_lines, false_used, rest = trimmed_branch(question, rest, (*case, (atom, False)))
    if (atom, True) not in true_used:
        return true_lines, true_used, rest
    if (atom, False) not in false_used:
        return false_lines, false_used, rest
    used = (true_used | false_used) - {(atom, True), (atom, False)}
    return (line, *true_lines, *false_lines), used, rest


def used_by(question, line, case):
    if line[0] == "ring":
        return set(line[1])
    if line[0] == "steps":
        places = {"given": 1, "over": 1, "beyond": 1, "pass": 2, "listed": 2}
        return {step[places[step[0]]] for step in line[1] if step[0] in places}
    remain = list(case)
    for literal in case:
        shorter = [other for other in remain if other != literal]
        if line_is_right(question, tuple(shorter), line):
            remain = shorter
    return set(remain)


class TrimmedTest(unittest.TestCase):
    def trims(self, expected, left, right, where, *paper):
        self.assertIs(judge(left, right, where, paper), True, paper)
        result = trimmed(left, right, where, paper)
        self.assertEqual(result, tuple(expected))
        self.assertIs(type(result), tuple)
        self.assertIs(judge(left, right, where, result), True)
        self.assertEqual(trimmed(left, right, where, result), result)
        self.assertEqual(plainly_trimmed((left, right, where), paper), result)

    def stays(self, left, right, where, *paper):
        self.trims(paper, left, right, where, *paper)

    def test_single_lines(self):
        self.stays((), (), YES, LEFT)
        self.stays(EVERYTHING, EVERYTHING, YES, RIGHT)
        self.stays(EVERYTHING, (), NO, OUTSIDE)

    def test_splits_that_stay(self):
        left = permits(ONE)
        self.stays(left, left, YES, split(ONE), RIGHT, LEFT)
        self.stays(left, (), ("not", ONE), split(ONE), OUTSIDE, LEFT)
        left = permits(("all", (ONE, TWO)))
        self.stays(left, left, YES, split(ONE), split(TWO), RIGHT, LEFT, LEFT)

    def test_a_split_that_the_true_side_does_not_use(self):
        left = permits(ONE)
        self.trims(
            [split(ONE), RIGHT, LEFT], left, left, YES, split(TWO), split(ONE), RIGHT, LEFT, split(ONE), RIGHT, LEFT,
        )
        self.trims([LEFT], (), (), YES, split(ONE), LEFT, LEFT)
        left = permits(("any", (ONE, THREE)))
        # The lines about the true case stay, even if the others are fewer.
        where = ("any", (TWO, ONE))
        self.trims(
            [split(ONE), RIGHT, split(THREE), RIGHT, LEFT], left, left, where,
            split(TWO), split(ONE), RIGHT, split(THREE), RIGHT, LEFT, split(ONE), RIGHT, OUTSIDE,
        )

    def test_a_split_that_the_false_side_does_not_use(self):
        left, right = permits(ONE), permits(("any", (ONE, TWO)))
        self.trims([split(ONE), RIGHT, LEFT], left, right, YES, split(TWO), RIGHT, split(ONE), RIGHT, LEFT)
        self.trims([OUTSIDE], permits(TWO), permits(TWO), NO, split(TWO), RIGHT, OUTSIDE)

    def test_the_true_side_is_asked_first(self):
        for one, other in ((RIGHT, LEFT), (LEFT, RIGHT), (OUTSIDE, RIGHT), (LEFT, OUTSIDE)):
            self.trims([one], (), EVERYTHING, NO, split(ONE), one, other)

    def test_literals_are_left_out_from_the_first_to_the_last(self):
        # In the case where both are true each of them is enough. ONE is left out first, so TWO is
        # used on the true side, and the false side can do without it.
        left, right = permits(("not", ("any", (ONE, TWO)))), permits(("not", ONE))
        self.trims(
            [split(ONE), OUTSIDE, RIGHT], left, right, ("not", ONE), split(ONE), split(TWO), LEFT, OUTSIDE, RIGHT,
        )
        # The order is that of the case: here TWO is left out first, so ONE is used.
        self.trims(
            [split(ONE), LEFT, RIGHT], left, permits(("not", ONE)), YES,
            split(TWO), split(ONE), LEFT, RIGHT, split(ONE), LEFT, RIGHT,
        )

    def test_each_guess_uses_what_it_needs(self):
        both, either = ("all", (ONE, TWO)), ("any", (ONE, TWO))
        self.stays(EVERYTHING, permits(either), both, split(ONE), RIGHT, OUTSIDE)
        self.stays(permits(both), permits(both), YES, split(ONE), split(TWO), RIGHT, LEFT, LEFT)
        self.stays(permits(either), permits(either), YES, split(ONE), RIGHT, split(TWO), RIGHT, LEFT)
        left = permits(("any", (("not", ONE), TWO)))
        self.stays(left, permits(("not", ONE)), ("not", both), split(ONE), split(TWO), OUTSIDE, LEFT, RIGHT)

    def test_rings_use_their_literals(self):
        five, ten = ("most", "", "size", -5), ("most", "", "size", -10)
        left, right = permits(("most", "size", "", 4)), permits(("most", "size", "", 9))
        lines = (split(five), LEFT, split(ten), ("ring", ((five, False), (ten, True))), RIGHT)
        self.stays(left, right, YES, *lines)
        self.trims(lines, left, right, YES, split(ONE), *lines, *lines)
        self.trims(lines, left, right, ONE, split(ONE), *lines, OUTSIDE)
        # The line "left" needs one literal only, so nothing uses ONE behind it either.
        self.trims(
            lines, left, right, YES, split(five), split(ONE), LEFT, LEFT, split(TWO), *lines[2:], *lines[2:],
        )

    def keeps_all_splits(self, literals, *steps):
        """A paper with these literals in the case that the steps close, and needless splits between them."""
        question = (EVERYTHING, (), ("all", tuple(atom if truth else ("not", atom) for atom, truth in literals)))
        idle = [("in", OWNER, "idle" + letter) for letter in "abcdef"]

        def paper(rest, with_idle):
            if not rest:
                return (("steps", steps),)
            (atom, truth), *later = rest
            inner = paper(later, with_idle)
            lines = (split(atom), *inner, OUTSIDE) if truth else (split(atom), OUTSIDE, *inner)
            return (split(idle[len(later)]), *lines, *lines) if with_idle else lines

        for order in (literals, literals[::-1]):
            self.stays(*question, *paper(order, False))
            self.trims(paper(order, False), *question, *paper(order, True))

    def test_steps_use_the_literals_in_them(self):
        is_ann, in_s, in_t = ("is", WHO, ANN), ("in", WHO, "s"), ("in", WHO, "t")
        s_in_t, s_in_u, u_in_t = (
            ("within", *pair) for pair in (("s", ("set", "t")), ("s", ("set", "u")), ("u", ("set", "t")))
        )
        ann_in_s = ("in", ANN, "s")
        self.keeps_all_splits(
            ((is_ann, True), (in_s, True), (ann_in_s, False)),
            ("given", (is_ann, True)), ("turn", 0), ("given", (in_s, True)), ("join", 1, 2),
            ("given", (ann_in_s, False)),
            ("clash", 3, 4),
        )
        self.keeps_all_splits(
            ((in_s, True), (s_in_t, True), (in_t, False)),
            ("given", (in_s, True)), ("pass", 0, (s_in_t, True)), ("given", (in_t, False)), ("clash", 1, 2),
        )
        self.keeps_all_splits(
            ((in_s, True), (within("ann"), True), (is_ann, False)),
            ("given", (in_s, True)), ("given", (is_ann, False)), ("listed", 0, (within("ann"), True), (1,)),
        )
        self.keeps_all_splits(
            ((s_in_t, False), (within(), True)), ("over", (s_in_t, False)), ("listed", 0, (within(), True), ()),
        )
        self.keeps_all_splits(
            ((s_in_t, False), (s_in_u, True), (u_in_t, True)),
            ("over", (s_in_t, False)), ("pass", 0, (s_in_u, True)), ("pass", 1, (u_in_t, True)),
            ("beyond", (s_in_t, False), ""), ("clash", 2, 3),
        )
        # A step that nothing needs uses its literal as well.
        self.keeps_all_splits(
            ((s_in_t, False), (within(), True), (in_t, True), (in_s, False)),
            ("given", (in_t, True)), ("over", (s_in_t, False)), ("given", (in_s, False)),
            ("listed", 1, (within(), True), ()),
        )

    def test_steps_about_other_terms(self):
        lacks, lists, bob_in_s = within("ann"), within("ann", "bob"), ("in", BOB, "s")
        other = ("other", *lacks[1:])
        is_bob = ("is", BOB, other)
        true_steps = (
            ("given", (is_bob, True)), ("over", (lacks, False)), ("join", 0, 1), ("given", (bob_in_s, False)),
            ("clash", 2, 3),
        )
        false_steps = (
            ("given", (is_bob, False)), ("turn", 0), ("beyond", (lacks, False), "ann"), ("over", (lacks, False)),
            ("listed", 3, (lists, True), (2, 1)),
        )
        where = ("all", (("not", lacks), lists, ("not", bob_in_s)))
        inner = (split(is_bob), ("steps", true_steps), ("steps", false_steps))
        self.stays(
            EVERYTHING, (), where, split(lacks), OUTSIDE, split(lists), split(bob_in_s), OUTSIDE, *inner, OUTSIDE,
        )


def random_paper(dice, question, atoms, case=()):
    """A paper that splits on the atoms in any order, also where a line closes the case already."""
    left = [atom for atom in atoms if atom not in [told for told, _ in case]]
    closing = [line for line in closing_candidates(case) if line_is_right(question, case, line)]
    if closing and (not left or dice.random() < 0.6):
        return (dice.choice(closing),)
    if not left:
        return (("open", case),)
    atom = dice.choice(left)
    lines = [random_paper(dice, question, atoms, (*case, (atom, truth))) for truth in (True, False)]
    return (("split", atom), *lines[0], *lines[1])


class RandomPaperTest(unittest.TestCase):
    def test_random_papers(self):
        dice = random.Random(46)
        shorter = 0
        checked = 0
        while checked < 250:
            items = dice.choice(POOLS)
            question = random_question(dice, items, 2)
            more = [atom for atom in [simple_condition(dice, items), simple_condition(dice, WIDE)] if is_atom(atom)]
            atoms = list(dict.fromkeys([*question_atoms(*question), *more]))
            if len(atoms) > 7:
                continue
            paper = random_paper(dice, question, atoms)
            if open_cases(paper):
                continue
            checked += 1
            self.assertIs(judge(*question, paper), True)
            self.assertFalse(splits_twice(paper))
            result = trimmed(*question, paper)
            self.assertEqual(result, plainly_trimmed(question, paper))
            self.assertIs(judge(*question, result), True)
            self.assertEqual(trimmed(*question, result), result)
            shorter += len(result) < len(paper)
        self.assertGreater(shorter, 100)
        self.assertLess(shorter, 245)

    def test_a_long_branch(self):
        """Papers may be deeper than Python's own stack allows calls to be."""
        atoms = [("most", "", "size", number) for number in range(700)]
        lines = [line for atom in atoms for line in (("split", atom), LEFT)]
        paper = (*lines, LEFT)
        self.assertEqual(trimmed((), (), YES, paper), (LEFT,))


if __name__ == "__main__":
    unittest.main()
