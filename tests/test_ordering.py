import itertools
import random
import unittest

from questions import BLANK, NO, OWNER, POOLS, WHO, WIDE, YES, name, part, random_question
from samples import nested
from whomaywhat.conditions import holds, is_primitive
from whomaywhat.ordering import earlier_than, question_cells
from whomaywhat.requests import compare_requests, make_request, members_of, number_of, part_of, word_of
from whomaywhat.views import mentioned_words
from whomaywhat.words import fresh_words, stock_place, word_at

BIG = 10 ** 70
NOTHING = make_request()


def permits(*conditions):
    return tuple(("abcdefgh"[place], "permit", 0, condition) for place, condition in enumerate(conditions))


class QuestionCellsTest(unittest.TestCase):
    def cells(self, expected, *conditions):
        """The conditions stand in left, right and where by turns, and deep in other conditions."""
        for left, right, where in (
            (permits(*conditions), (), YES), ((), permits(*conditions), NO), ((), (), ("all", conditions)),
            (permits(*conditions[1:]), permits(*[("not", one) for one in conditions[:1]]), YES),
            (permits(*conditions[:1]), (("z", "forbid", -9, ("any", (NO, ("all", conditions[1:])))),), NO),
            ((), permits(*[nested(8, one, ("not", "all", "any")) for one in conditions[::-1]]), YES),
        ):
            result = question_cells(left, right, where)
            self.assertEqual(result, tuple(expected))
            self.assertIs(type(result), tuple)

    def test_no_cells(self):
        self.cells(())
        self.cells((), YES, NO, ("all", ()), ("is", name("a"), BLANK), ("most", "", "", 3))

    def test_word_cells(self):
        self.cells([("word", "who")], ("is", WHO, BLANK))
        self.cells([("word", "who")], ("is", name("a"), WHO))
        self.cells([("word", "who")], ("is", WHO, WHO))
        self.cells([("word", "owner"), ("word", "who")], ("is", WHO, OWNER))
        self.cells([("word", "who"), ("set", "s")], ("in", WHO, "s"))
        self.cells(
            [("word", word) for word in ("a", "aa", "b")],
            *[("is", ("field", word), BLANK) for word in ("b", "aa", "a")],
        )

    def test_part_cells(self):
        self.cells([("part", "p", 0)], ("is", part(0), BLANK))
        self.cells([("part", "p", index) for index in range(4)], ("is", part(3), BLANK))
        self.cells([("part", "p", index) for index in range(41)], ("is", part(40), part(2)), ("is", part(7), BLANK))
        self.cells([("part", "p", 0), ("part", "p", 1), ("set", "s")], ("in", part(1), "s"))
        self.cells(
            [("part", "p", 0), ("part", "p", 1), ("part", "q", 0), ("part", "q", 1), ("part", "q", 2)],
            ("is", part(2, "q"), part(1)), ("is", part(0, "q"), part(0)),
        )

    def test_set_cells(self):
        self.cells([("set", "s")], ("in", name("a"), "s"))
        self.cells([("set", "s")], ("in", BLANK, "s"))
        self.cells([("set", "s")], ("within", "s", ("names", ("a", "b"))))
        self.cells([("set", "s")], ("within", "s", ("set", "s")))
        self.cells([("set", "s"), ("set", "t")], ("within", "t", ("set", "s")))
        self.cells([("set", "s"), ("set", "t")], ("within", "s", ("set", "t")))

    def test_number_cells(self):
        self.cells([("number", "x")], ("most", "x", "", 5))
        self.cells([("number", "x")], ("most", "", "x", -BIG))
        self.cells([("number", "x")], ("most", "x", "x", 1))
        self.cells([("number", "x"), ("number", "y")], ("most", "y", "x", 1))

    def test_the_order_of_the_sections(self):
        self.cells(
            [
                ("word", "b"), ("word", "f"), ("part", "a", 0), ("part", "a", 1), ("part", "f", 0), ("set", "a"),
                ("set", "f"),
                ("number", "a"), ("number", "f"),
            ],
            ("most", "f", "a", 0), ("within", "f", ("set", "a")), ("is", part(0, "f"), part(1, "a")),
            ("is", ("field", "f"), ("field", "b")),
        )


# A question with cells of each kind: what is told of them does not matter.
CELLS = permits(
    ("is", WHO, name("m")), ("is", part(2), name("c")), ("within", "s", ("names", ("c", "m"))), ("in", OWNER, "t"),
    ("most", "x", "y", 5),
)


class EarlierThanTest(unittest.TestCase):
    def expected(self, mentioned, cells, one, given):
        """Whether the request one has the earlier value in the first of the cells that differs."""
        def word_key(value):
            return stock_place(mentioned, value)

        for kind, field, *index in cells:
            if kind == "word":
                mine, theirs, section = word_of(one, field), word_of(given, field), "words"
            elif kind == "part":
                mine, theirs, section = part_of(one, field, *index), part_of(given, field, *index), "words"
            elif kind == "set":
                mine, theirs, section = members_of(one, field), members_of(given, field), "sets"
            else:
                mine, theirs, section = number_of(one, field), number_of(given, field), "numbers"
            if mine != theirs:
                pair = [make_request(**{section: [(field, value)]}) for value in (mine, theirs)]
                return compare_requests(mentioned, *pair) == -1
        return False

    def check(self, question, given, requests):
        mentioned, cells = mentioned_words(*question), question_cells(*question)
        condition = earlier_than(*question, given)
        self.assertIs(is_primitive(condition), True)
        told = 0
        for one in (*requests, given):
            expected = self.expected(mentioned, cells, one, given)
            self.assertIs(holds(condition, one), expected, (question, given, one))
            told += expected
        return told

    def earlier_values(self, condition, section, values):
        """Checks that the values, which are in ascending order, are earlier than those behind them."""
        question = (permits(condition), (), YES)
        requests = [make_request(**{section: [("f", value)]}) for value in values]
        for at, given in enumerate(requests):
            earlier = earlier_than(*question, given)
            for place, request in enumerate(requests):
                self.assertIs(holds(earlier, request), place < at, (given, request))

    def test_words(self):
        is_known = ("is", ("field", "f"), name("mm"))
        known = ("any", (is_known, ("in", name("b"), "s"), ("in", name("zoe"), "s")))
        self.earlier_values(known, "words", ["", "b", "mm", "zoe", "a", "c", "d", "e", "aa", "ba", "mn"])
        self.earlier_values(("is", ("field", "f"), BLANK), "words", ["", "a", "b", "c", "d", "z", "aa"])

    def test_parts(self):
        known = ("any", (("is", part(1, "f"), name("m")), ("is", part(0, "f"), name("b"))))
        paths = [
            (), ("b",), ("b", "b"), ("b", "m"), ("b", "a"), ("m",), ("m", "m"), ("m", "c"), ("a",), ("a", "b"),
            ("a", "a"), ("c",),
        ]
        self.earlier_values(known, "paths", paths)

    def test_sets(self):
        known = ("all", (("in", name("c"), "f"), ("in", name("m"), "f")))
        words = ("c", "m", "a", "b")
        sets = [[word for place, word in enumerate(words) if number >> place & 1] for number in range(16)]
        self.earlier_values(known, "sets", sets)
        self.earlier_values(
            ("within", "f", ("names", ())), "sets", [[], ["a"], ["b"], ["a", "b"], ["c"], ["a", "c"], ["b", "c"]],
        )
        # Words that no given request has are behind all others.
        condition = earlier_than(permits(known), (), YES, make_request(sets=[("f", ["m", "b"])]))
        for members, expected in (
            (["m", "a"], True), (["c", "m", "a"], True), (["b"], True), (["b", "c"], True), (["b", "m", "c"], False),
            (["d"], False), (["b", "zzz"], False), (["b", "m", "a"], False),
        ):
            self.assertIs(holds(condition, make_request(sets=[("f", members)])), expected, members)

    def test_numbers(self):
        values = [0, 1, -1, 2, -2, 3, -3, 9, -9, 10, -10, BIG - 1, 1 - BIG, BIG, -BIG, BIG + 1, -BIG - 1]
        for condition in (("most", "f", "", 3), ("most", "", "f", 0), ("most", "f", "f", 0)):
            self.earlier_values(condition, "numbers", values)

    def test_the_first_cell_that_differs_decides(self):
        def request(who="", p=(), s=(), x=0, y=0, **more):
            return make_request(words=[("who", who)], paths=[("p", p)], sets=[("s", s)], numbers=[("x", x), ("y", y)])

        question = (CELLS, (), YES)
        ascending = [
            request(y=1), request(y=-1), request(x=1), request(x=-1, y=1), request(s=["c"]), request(s=["m"], y=5),
            request(s=["c", "m"]), request(s=["a"], x=3), request(p=["c"]), request(p=["c", "c"]),
            request(p=["c", "m", "a"]),
            request(p=["m"], s=["b"]), request(p=["a", "a"]), request(p=["b"], s=["c"], y=-2), request(who="c"),
            request(who="c", p=["c", "c"], x=-1), request(who="m"), request(who="a", x=7),
            request(who="b", p=["a"], s=["a", "m"]),
        ]
        for one, other in itertools.combinations(ascending, 2):
            self.check(question, other, (one, NOTHING))
            self.assertIs(holds(earlier_than(*question, other), one), True)
            self.assertIs(holds(earlier_than(*question, one), other), False)

    def test_the_given_request_and_the_first_of_all(self):
        for question in ((CELLS, (), YES), ((), CELLS, NO), ((), (), CELLS[0][3])):
            first = earlier_than(*question, NOTHING)
            for one in (
                NOTHING, make_request(words=[("who", "a")]), make_request(numbers=[("x", -BIG)], sets=[("s", ["a"])]),
            ):
                self.assertIs(holds(first, one), False)
                self.assertIs(holds(earlier_than(*question, one), one), False)

    def test_other_cells_do_not_count(self):
        given = make_request(
            words=[("who", "m")], paths=[("p", ["c", "c", "m"])], sets=[("s", ["c"])], numbers=[("x", 3)],
        )
        more = make_request(
            words=[("aa", "b"), ("who", "m"), ("zz", "b")], paths=[("aa", ["b"]), ("p", ["c", "c", "m", "a", "b"])],
            sets=[("aa", ["b"]), ("s", ["c"]), ("zz", ["b"])], numbers=[("aa", 1), ("x", 3), ("zz", -1)],
        )
        question = (CELLS, (), YES)
        self.assertIs(holds(earlier_than(*question, given), more), False)
        earlier = (more[0][:1], *more[1:])
        self.assertIs(holds(earlier_than(*question, given), earlier), True)
        self.assertIs(holds(earlier_than((), (), YES, NOTHING), more), False)
        self.check(question, given, (more, earlier, NOTHING))

    def drawn(self, dice, words, numbers):
        some = [dice.choice(words) for _ in range(9)]
        return make_request(
            words=[
                ("who", dice.choice(["", *some])), ("owner", dice.choice(["", *some])),
                ("other", dice.choice(["", "a"])),
            ],
            paths=[("p", some[:dice.randrange(5)]), ("q", some[:dice.randrange(2)])],
            sets=[(field, some[dice.randrange(4):dice.randrange(5)]) for field in "stu"],
            numbers=[(field, dice.choice(numbers)) for field in "wxyz"],
        )

    def near(self, dice, request, other):
        """The request with some of its sections or values taken from the other one."""
        sections = []
        for mine, theirs in zip(request, other):
            kept = dict(mine)
            if dice.random() < 0.4:
                field, value = dice.choice(theirs or (("who", None),))
                kept[field] = value
            elif dice.random() < 0.2:
                kept = dict(theirs)
            sections.append(tuple(sorted((field, value) for field, value in kept.items() if value is not None)))
        return tuple(sections)

    def cut_to_cells(self, request, cells):
        """The request with defaults in all cells but these."""
        ends = {}
        for kind, field, *index in cells:
            if kind == "part":
                ends[field] = max(index[0] + 1, ends.get(field, 0))
        kinds = {kind: [cell[1] for cell in cells if cell[0] == kind] for kind in ("word", "set", "number")}
        return make_request(
            words=[pair for pair in request[0] if pair[0] in kinds["word"]],
            paths=[(field, path[:ends[field]]) for field, path in request[1] if field in ends],
            sets=[pair for pair in request[2] if pair[0] in kinds["set"]],
            numbers=[pair for pair in request[3] if pair[0] in kinds["number"]],
        )

    def test_many_pairs(self):
        dice = random.Random(49)
        numbers = (0, 0, 1, -1, 2, -2, 3, BIG, -BIG, BIG + 1)
        told = 0
        for _ in range(400):
            question = random_question(dice, dice.choice((WIDE, WIDE, *POOLS)), 3)
            mentioned, cells = mentioned_words(*question), question_cells(*question)
            stock = [*mentioned, *fresh_words(mentioned, 4)]
            given = self.cut_to_cells(self.drawn(dice, stock, numbers), cells)
            others = [self.drawn(dice, [*stock, "zz", "abc"], numbers) for _ in range(6)]
            told += self.check(question, given, others + [self.near(dice, given, one) for one in others * 3])
        self.assertGreater(told, 1500)

    def test_the_order_of_requests(self):
        """For requests without other cells the condition is that of point [8]."""
        dice = random.Random(50)
        for _ in range(150):
            question = random_question(dice, WIDE, 4)
            mentioned, cells = mentioned_words(*question), question_cells(*question)
            stock = [*mentioned, *fresh_words(mentioned, 3)]
            requests = [self.cut_to_cells(self.drawn(dice, stock, (0, 1, -1, 5, BIG)), cells) for _ in range(4)]
            requests += [self.cut_to_cells(self.near(dice, requests[0], one), cells) for one in requests[1:]]
            for one, other in itertools.permutations(requests, 2):
                self.assertIs(
                    holds(earlier_than(*question, other), one), compare_requests(mentioned, one, other) == -1,
                )

    def test_questions_with_many_cells(self):
        fields = [("field", "f" + word_at(number + 1)) for number in range(30)]
        conditions = [("is", term, name("b")) for term in fields]
        conditions += [("is", part(40, "p" + word_at(number + 1)), BLANK) for number in range(5)]
        question = (permits(("any", tuple(conditions))), (), YES)
        words = [(term[1], "b") for term in fields]
        given = make_request(words=words, paths=[("pa", ["b"] * 41), ("pe", ["b"] * 40)])
        self.check(question, given, (
            NOTHING, make_request(words=words[:-1]),
            make_request(words=words, paths=[("pa", ["b"] * 41), ("pe", ["b"] * 39)]),
            make_request(words=words, paths=[("pa", ["b"] * 41), ("pe", ["b"] * 39 + ["a"])]),
            make_request(words=words, paths=[("pa", ["b"] * 41), ("pe", ["b"] * 42)]),
            make_request(words=words[1:] + [("fa", "a")]),
        ))


if __name__ == "__main__":
    unittest.main()
