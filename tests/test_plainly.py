import functools
import inspect
import itertools
import random
import unittest

from questions import BLANK, NO, OWNER, POOLS, WHO, YES, answers, box_size, name, part, random_question, stock_of
from whomaywhat.ordering import question_cells
from whomaywhat.plainly import box, first_answer, number_bound
from whomaywhat.requests import compare_requests, make_request
from whomaywhat.views import mentioned_words

BIG = 10 ** 45
NOTHING = make_request()


def permits(condition):
    return (("a", "permit", 0, condition),)


def places(*conditions):
    """Questions in which the conditions stand at different places."""
    yield permits(("all", conditions)), (), YES
    yield (), permits(("not", ("any", conditions))), NO
    yield permits(conditions[0]), permits(NO), ("any", conditions[1:])


def plain_box(question):
    """All requests of the box, made cell by cell without regard to their order, then sorted."""
    stock, bound = stock_of(question), number_bound(*question)
    subsets = [s for size in range(len(stock)) for s in itertools.combinations(sorted(stock[1:]), size)]
    values = {"word": stock, "part": stock, "set": subsets, "number": list(range(-bound, bound + 1))}
    cells = question_cells(*question)
    found = {}
    for choice in itertools.product(*[values[cell[0]] for cell in cells]):
        given = {kind: [] for kind in values}
        paths = {}
        for cell, value in zip(cells, choice):
            if cell[0] == "part":
                paths.setdefault(cell[1], []).append(value)
            else:
                given[cell[0]].append((cell[1], value))
        if all("" not in path[:len([word for word in path if word])] for path in paths.values()):
            pairs = [(field, [word for word in path if word]) for field, path in paths.items()]
            request = make_request(words=given["word"], paths=pairs, sets=given["set"], numbers=given["number"])
            found[request] = True
    mentioned = mentioned_words(*question)
    return sorted(found, key=functools.cmp_to_key(lambda one, other: compare_requests(mentioned, one, other)))


class NumberBoundTest(unittest.TestCase):
    def bound(self, expected, *conditions):
        for question in places(*conditions):
            self.assertEqual(number_bound(*question), expected)

    def test_bounds(self):
        self.bound(0, YES)
        self.bound(0, ("is", WHO, BLANK))
        self.bound(5, ("most", "x", "", 3))
        self.bound(4, ("most", "", "x", 3))
        self.bound(4, ("most", "x", "", -4))
        self.bound(3, ("most", "", "x", -2))
        self.bound(1, ("most", "", "x", 0))
        self.bound(2, ("most", "x", "", 0))
        self.bound(8, ("most", "x", "y", 3))
        self.bound(10, ("most", "y", "x", 3))
        self.bound(BIG + 1, ("most", "", "x", BIG))
        self.bound(2 * BIG + 2, ("most", "x", "y", -BIG))

    def test_fields_and_different_atoms(self):
        self.bound(3 * (4 + 1), ("most", "x", "y", 3), ("most", "", "z", 0))
        self.bound(2 * (4 + 6), ("most", "x", "y", 3), ("most", "x", "y", 5), ("most", "x", "y", 3))
        # One atom in two forms counts once.
        self.bound(2 * 4, ("most", "x", "y", 3), ("most", "y", "x", -4))
        self.bound(2 * (4 + 5), ("most", "x", "y", 3), ("most", "y", "x", 3))
        # Fields count also where no atom is left of the condition.
        self.bound(2 * 4, ("most", "", "x", 3), ("most", "y", "y", 7))
        self.bound(0, ("most", "y", "y", 7), ("most", "", "", 9))


class BoxTest(unittest.TestCase):
    def holds_exactly(self, expected, *conditions):
        for question in places(*conditions):
            self.assertEqual(list(box(*question)), expected)
            self.assertEqual(box_size(question), len(expected))

    def words(self, *values):
        return [make_request(words=[("who", value)]) for value in values]

    def test_it_is_a_generator(self):
        self.assertTrue(inspect.isgeneratorfunction(box))
        self.assertTrue(inspect.isgenerator(box((), (), YES)))

    def test_without_cells(self):
        self.holds_exactly([NOTHING], YES)
        self.holds_exactly([NOTHING], NO, ("is", name("a"), name("b")), ("most", "", "", 3))

    def test_words(self):
        self.holds_exactly(self.words("", "a"), ("is", WHO, BLANK))
        self.holds_exactly(self.words("", "b", "a"), ("is", WHO, name("b")))
        self.holds_exactly(self.words("", "b", "zoe", "a"), ("is", WHO, name("zoe")), ("is", name("b"), name("b")))
        self.holds_exactly(self.words("", "a", "b"), ("is", WHO, name("a")))
        two = [
            make_request(words=[("owner", one), ("who", other)]) for one in ("", "a", "b") for other in ("", "a", "b")
        ]
        self.holds_exactly(two, ("is", WHO, OWNER))

    def test_parts(self):
        def paths(*values):
            return [make_request(paths=[("p", value)]) for value in values]

        self.holds_exactly(paths([], ["a"]), ("is", part(0), BLANK))
        self.holds_exactly(
            paths([], ["a"], ["a", "a"], ["a", "b"], ["b"], ["b", "a"], ["b", "b"]), ("is", part(1), part(0)),
        )
        self.holds_exactly(
            paths([], ["m"], ["m", "m"], ["m", "a"], ["m", "b"], ["a"], ["a", "m"], ["a", "a"], ["a", "b"], ["b"],
                  ["b", "m"], ["b", "a"], ["b", "b"]), ("is", part(1), name("m")),
        )
        three = list(box(permits(("is", part(2), BLANK)), (), YES))
        self.assertEqual(len(three), 1 + 3 + 9 + 27)
        self.assertEqual(three[:5], paths([], ["a"], ["a", "a"], ["a", "a", "a"], ["a", "a", "b"]))

    def test_sets(self):
        def sets(*values):
            return [make_request(sets=[("s", value)]) for value in values]

        self.holds_exactly(sets([]), ("within", "s", ("set", "s")))
        self.holds_exactly(sets([]), ("in", BLANK, "s"))
        self.holds_exactly(sets([], ["m"]), ("in", name("m"), "s"))
        self.holds_exactly(sets([], ["a"]), ("within", "s", ("names", ())))
        self.holds_exactly(
            sets([], ["c"], ["m"], ["c", "m"], ["a"], ["c", "a"], ["m", "a"], ["c", "m", "a"]),
            ("within", "s", ("names", ("c", "m"))),
        )
        both = [make_request(sets=[("s", one), ("t", other)]) for one in ([], ["a"]) for other in ([], ["a"])]
        self.holds_exactly(both, ("within", "t", ("set", "s")))
        self.holds_exactly(
            [make_request(words=[("who", who)], sets=[("s", members)]) for who in ("", "a") for members in ([], ["a"])],
            ("in", WHO, "s"),
        )

    def test_within_atoms_that_are_the_same_count_once(self):
        once = ("within", "s", ("names", ()))
        self.holds_exactly([make_request(sets=[("s", value)]) for value in ([], ["a"])], once, ("not", once), once)

    def test_numbers(self):
        def numbers(*values):
            return [make_request(numbers=[("x", value)]) for value in values]

        self.holds_exactly(numbers(0), ("most", "x", "x", 5))
        self.holds_exactly(numbers(0, 1, -1), ("most", "", "x", 0))
        self.holds_exactly(numbers(0, 1, -1, 2, -2, 3, -3, 4, -4), ("most", "", "x", 3))
        square = [
            make_request(numbers=[("x", one), ("y", other)]) for one in (0, 1, -1, 2, -2) for other in (0, 1, -1, 2, -2)
        ]
        self.holds_exactly(square, ("most", "x", "y", 0))

    def test_all_sections(self):
        found = list(box(permits(("any", (("in", part(0), "s"), ("is", WHO, BLANK), ("most", "", "x", 0)))), (), YES))
        self.assertEqual(len(found), 3 * 3 * 4 * 3)
        self.assertEqual(found[:4], [
            NOTHING, make_request(numbers=[("x", 1)]), make_request(numbers=[("x", -1)]),
            make_request(sets=[("s", ["a"])]),
        ])
        self.assertEqual(found[-1], make_request(
            words=[("who", "b")], paths=[("p", ["b"])], sets=[("s", ["a", "b"])], numbers=[("x", -1)],
        ))

    def test_huge_boxes_begin_at_once(self):
        words = tuple(sorted("n" + one + other for one in "abcdefgh" for other in "abcdefgh"))
        condition = ("all", (
            ("within", "s", ("names", words)), ("most", "x", "y", BIG), ("is", part(40), name("zz")),
        ))
        first = list(itertools.islice(box(permits(condition), (), YES), 4))
        self.assertEqual(first, [
            NOTHING, make_request(numbers=[("y", 1)]), make_request(numbers=[("y", -1)]),
            make_request(numbers=[("y", 2)]),
        ])
        answer = first_answer(permits(YES), (), ("not", ("most", "x", "y", -1)))
        self.assertEqual(answer, NOTHING)
        far = ("all", (("within", "s", ("names", words)), ("not", ("most", "x", "y", -2)), ("most", "", "y", -1)))
        self.assertEqual(first_answer(permits(far), (), YES), make_request(numbers=[("y", 1)]))

    def test_random_boxes(self):
        dice = random.Random(50)
        checked = 0
        while checked < 150:
            question = random_question(dice, dice.choice(POOLS), 2)
            if box_size(question) > 800:
                continue
            checked += 1
            found = list(box(*question))
            self.assertEqual(len(found), box_size(question))
            self.assertEqual(found, plain_box(question))

    def test_what_was_returned_can_be_called_again(self):
        question = (permits(("is", WHO, name("b"))), (), YES)
        one, other = box(*question), box(*question)
        self.assertEqual(next(one), next(other))
        self.assertEqual(len(list(one)), 2)
        self.assertEqual(len(list(other)), 2)


class FirstAnswerTest(unittest.TestCase):
    def test_answers(self):
        ann = make_request(words=[("who", "ann")])
        self.assertEqual(first_answer(permits(("is", WHO, name("ann"))), (), YES), ann)
        self.assertIsNone(first_answer(permits(("is", WHO, name("ann"))), (), ("is", WHO, BLANK)))
        self.assertIsNone(first_answer((), permits(("is", WHO, name("ann"))), YES))
        self.assertIsNone(first_answer(permits(YES), permits(YES), YES))
        self.assertEqual(first_answer(permits(YES), (), YES), NOTHING)
        self.assertIsNone(first_answer(permits(YES), (), NO))
        self.assertEqual(
            first_answer(permits(YES), permits(("is", WHO, BLANK)), YES), make_request(words=[("who", "a")]),
        )
        forbidden = (("a", "permit", 0, YES), ("b", "forbid", 0, ("most", "", "x", 0)))
        self.assertEqual(
            first_answer(permits(YES), forbidden, ("not", ("is", WHO, BLANK))), make_request(words=[("who", "a")]),
        )
        self.assertEqual(first_answer(forbidden, (), YES), make_request(numbers=[("x", -1)]))
        self.assertEqual(
            first_answer(permits(("most", "size", "", 9)), permits(("most", "size", "", 4)), YES),
            make_request(numbers=[("size", 5)]),
        )

    def test_random_questions(self):
        dice = random.Random(51)
        seen = {True: 0, False: 0}
        while min(seen.values()) < 40:
            question = random_question(dice, dice.choice(POOLS), 2)
            if box_size(question) <= 800:
                found = [request for request in plain_box(question) if answers(*question, request)]
                self.assertEqual(first_answer(*question), found[0] if found else None)
                seen[bool(found)] += 1


if __name__ == "__main__":
    unittest.main()
