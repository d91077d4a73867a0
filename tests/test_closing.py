import random
import unittest

from questions import OWNER, WHO, branches, name
from samples import random_case
from test_models import colouring_case, tight_case
from whomaywhat.bounds import is_ring
from whomaywhat.closing import closing_lines
from whomaywhat.models import is_possible
from whomaywhat.sameness import is_closed

LISTED = ("within", "s", ("names", ("a", "b")))


class ClosingLinesTest(unittest.TestCase):
    def closes(self, case):
        """The lines close the case by rings and steps alone, and split on no atom twice."""
        lines = closing_lines(case)
        found = branches(lines, case)
        self.assertEqual(len(lines), 2 * len(found) - 1)
        for line, longer in found:
            self.assertEqual(longer[:len(case)], case)
            if line[0] == "ring":
                self.assertTrue(is_ring(line[1]) and set(line[1]) <= set(longer))
            else:
                self.assertEqual(line[0], "steps")
                self.assertTrue(is_closed(longer, line[1]))
            split = [atom for atom, _ in longer[len(case):]]
            self.assertEqual(len(set(split) - {atom for atom, _ in case}), len(split))
        return lines

    def test_one_line(self):
        ring = ((("most", "x", "y", 3), True), (("most", "x", "y", 4), False))
        self.assertEqual(len(self.closes(ring)), 1)
        self.assertEqual(len(self.closes(((("in", WHO, "s"), True), (("within", "s", ("names", ())), True)))), 1)

    def test_members_of_a_list(self):
        """Each word of the list is out of the question for a reason of its own."""
        case = (
            (("in", WHO, "s"), True), (LISTED, True), (("in", name("a"), "t"), False), (("is", OWNER, name("b")), True),
            (("is", OWNER, WHO), False), (("in", WHO, "t"), True),
        )
        lines = self.closes(case)
        self.assertEqual(lines[0], ("split", ("is", WHO, name("a"))))
        self.assertEqual(len(lines), 3)

    def test_other_terms(self):
        case = (
            (LISTED, True), (("within", "s", ("set", "t")), False), (("in", name("a"), "t"), True),
            (("in", name("b"), "t"), True),
        )
        lines = self.closes(case)
        self.assertEqual(lines[0], ("split", ("is", name("a"), ("other", "s", ("set", "t")))))

    def test_random_cases(self):
        dice = random.Random(36)
        split = checked = 0
        while checked < 400:
            wide = random_case(dice, dice.randrange(4, 14), words="abcd")
            case = tuple(dict(dice.choice((tight_case(dice), colouring_case(dice), wide))).items())
            if not is_possible(case):
                checked += 1
                split += len(self.closes(case)) > 1
        self.assertGreater(split, 80)


if __name__ == "__main__":
    unittest.main()
