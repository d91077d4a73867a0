import copy
import itertools
import random
import unittest

from whomaywhat.errors import InvalidRequest
from whomaywhat.requests import (
    compare_requests, make_request, members_of, number_of, part_of, word_of,
)
from whomaywhat.words import stock_place

EMPTY = ((), (), (), ())
BIG = 10 ** 400


class MakeRequestTest(unittest.TestCase):
    def test_nothing(self):
        self.assertEqual(make_request(), EMPTY)
        self.assertEqual(make_request(words=[], paths=(), sets=[], numbers=()), EMPTY)

    def test_the_example(self):
        request = make_request(
            words=[("who", "ann"), ("owner", "")], sets=[("tags", ["b", "a", "b"])], numbers=[("size", 0)]
        )
        self.assertEqual(request, ((("who", "ann"),), (), (("tags", ("a", "b")),), ()))

    def test_each_argument_alone(self):
        self.assertEqual(make_request(words=(("b", "x"), ("a", "y"))), ((("a", "y"), ("b", "x")), (), (), ()))
        self.assertEqual(
            make_request(paths=[("b", ["x", "a", "x"]), ("a", ("q",))]),
            ((), (("a", ("q",)), ("b", ("x", "a", "x"))), (), ()),
        )
        self.assertEqual(
            make_request(sets=(("b", ("x", "a", "x")), ("a", ["q"]))),
            ((), (), (("a", ("q",)), ("b", ("a", "x"))), ()),
        )
        self.assertEqual(
            make_request(numbers=[("b", -BIG), ("ab", 1), ("a", BIG)]),
            ((), (), (), (("a", BIG), ("ab", 1), ("b", -BIG))),
        )

    def test_fields_are_in_alphabetical_order(self):
        fields = ["b", "aa", "a", "z", "ab", "aab"]
        for order in itertools.permutations(fields, len(fields)):
            request = make_request(words=[(field, "w") for field in order])
            self.assertEqual([pair[0] for pair in request[0]], ["a", "aa", "aab", "ab", "b", "z"])

    def test_default_values_are_left_out(self):
        request = make_request(
            words=[("a", ""), ("b", "x"), ("c", "")],
            paths=[("a", []), ("b", ["x"]), ("c", ())],
            sets=[("a", ()), ("b", ["x"]), ("c", [])],
            numbers=[("a", 0), ("b", -1), ("c", 0)],
        )
        self.assertEqual(request, ((("b", "x"),), (("b", ("x",)),), (("b", ("x",)),), (("b", -1),)))

    def test_the_same_field_in_several_sections(self):
        request = make_request(words=[("f", "w")], paths=[("f", ["p"])], sets=[("f", ["s"])], numbers=[("f", 3)])
        self.assertEqual(request, ((("f", "w"),), (("f", ("p",)),), (("f", ("s",)),), (("f", 3),)))

    def test_sections_make_the_same_request_again(self):
        request = make_request(
            words=[("who", "ann"), ("a", "b")], paths=[("p", ["x", "y"]), ("b", ["x"])],
            sets=[("s", ["b", "a"]), ("a", ["z"])], numbers=[("n", 5), ("a", -7)],
        )
        words, paths, sets, numbers = request
        self.assertEqual(make_request(words=words, paths=paths, sets=sets, numbers=numbers), request)

    def test_every_section_is_a_tuple_of_tuples(self):
        request = make_request(words=[("a", "b")], paths=[("p", ["x"])], sets=[("s", ["b"])], numbers=[("n", 5)])
        hash(request)
        self.assertIs(type(request), tuple)
        for section in request:
            self.assertIs(type(section), tuple)
            self.assertIs(type(section[0]), tuple)
        self.assertIs(type(request[1][0][1]), tuple)
        self.assertIs(type(request[2][0][1]), tuple)

    def test_arguments_stay_as_they_are_and_are_not_shared(self):
        arguments = {
            "words": [("b", "x"), ("a", "")], "paths": [("q", ["z", "a"]), ("p", [])],
            "sets": [("t", ["z", "a", "z"]), ("s", [])], "numbers": [("n", 0), ("m", 4)],
        }
        before = copy.deepcopy(arguments)
        request = make_request(**arguments)
        self.assertEqual(arguments, before)
        frozen = copy.deepcopy(request)
        arguments["words"].append(("c", "x"))
        arguments["paths"][0][1].append("more")
        arguments["sets"][0][1].clear()
        arguments["numbers"].clear()
        self.assertEqual(request, frozen)

    def test_arguments_are_keyword_only(self):
        with self.assertRaises(TypeError):
            make_request([("who", "ann")])


class InvalidRequestTest(unittest.TestCase):
    GOOD = {"words": "x", "paths": ["x"], "sets": ["x"], "numbers": 1}
    DEFAULT = {"words": "", "paths": [], "sets": [], "numbers": 0}
    NO_WORDS = ("", "A", "a b", " a", "a ", "a1", "a.", "a\n", "\ta", "a-b", "Who", "_")

    def refused(self, section, pairs):
        with self.assertRaises(InvalidRequest, msg=(section, pairs)):
            make_request(**{section: pairs})

    def at_any_place(self, section, pairs):
        """The pairs are refused before, between and behind good ones."""
        good = self.GOOD[section]
        rest = [("fa", good), ("fb", good)]
        for place in range(3):
            self.refused(section, rest[:place] + pairs + rest[place:])
            self.refused(section, tuple(rest[:place] + pairs + rest[place:]))

    def test_fields_that_are_no_words(self):
        for section in self.GOOD:
            for field in self.NO_WORDS:
                self.at_any_place(section, [(field, self.GOOD[section])])
                self.at_any_place(section, [(field, self.DEFAULT[section])])

    def test_fields_that_occur_twice(self):
        other = {"words": "y", "paths": ["y"], "sets": ["y"], "numbers": 2}
        for section, good in self.GOOD.items():
            default = self.DEFAULT[section]
            for one, two in ((good, good), (good, other[section]), (good, default), (default, good),
                             (default, default)):
                self.refused(section, [("f", one), ("f", two)])
                self.refused(section, [("f", one), ("a", good), ("f", two)])
                self.refused(section, [("z", good), ("f", one), ("a", good), ("f", two), ("c", default)])

    def test_values_of_words(self):
        for word in self.NO_WORDS:
            if word != "":
                self.at_any_place("words", [("f", word)])

    def test_parts_and_members(self):
        for section in ("paths", "sets"):
            for word in self.NO_WORDS:
                for several in ([word], [word, "a"], ["a", word], ["a", word, "b"], ("a", "b", word), [word, word]):
                    self.at_any_place(section, [("f", several)])

    def test_a_fault_in_one_section_while_the_others_are_good(self):
        arguments = {section: [("f", value)] for section, value in self.GOOD.items()}
        for section, value in self.GOOD.items():
            faulty = dict(arguments)
            faulty[section] = [("f", value), ("F", value)]
            with self.assertRaises(InvalidRequest):
                make_request(**faulty)


class ReadingValuesTest(unittest.TestCase):
    REQUEST = make_request(
        words=[("w", "ann"), ("b", "bob")], paths=[("p", ["x", "y", "z"]), ("q", ["x"])],
        sets=[("s", ["d", "c", "e"])], numbers=[("n", -5), ("m", BIG)],
    )

    def test_fields_that_are_there(self):
        self.assertEqual(word_of(self.REQUEST, "w"), "ann")
        self.assertEqual(word_of(self.REQUEST, "b"), "bob")
        self.assertEqual([part_of(self.REQUEST, "p", index) for index in range(3)], ["x", "y", "z"])
        self.assertEqual(part_of(self.REQUEST, "q", 0), "x")
        self.assertEqual(members_of(self.REQUEST, "s"), ("c", "d", "e"))
        self.assertEqual(number_of(self.REQUEST, "n"), -5)
        self.assertEqual(number_of(self.REQUEST, "m"), BIG)

    def test_fields_that_stand_in_another_section_or_are_missing(self):
        for field in ("p", "s", "n", "none", "ww", "a"):
            self.assertEqual(word_of(self.REQUEST, field), "")
        for field in ("w", "s", "n", "none"):
            self.assertEqual(part_of(self.REQUEST, field, 0), "")
        for field in ("w", "p", "n", "none"):
            self.assertEqual(members_of(self.REQUEST, field), ())
        for field in ("w", "p", "s", "none"):
            self.assertEqual(number_of(self.REQUEST, field), 0)
            self.assertIs(type(number_of(self.REQUEST, field)), int)

    def test_an_index_beyond_the_path(self):
        for index in (3, 4, 41, 10 ** 30, BIG):
            self.assertEqual(part_of(self.REQUEST, "p", index), "")
        self.assertEqual(part_of(self.REQUEST, "q", 1), "")


def section_fields(one, other, section):
    return sorted({field for field, _ in one[section]} | {field for field, _ in other[section]})


def slow_compare(mentioned, one, other):
    """Point [8] word by word: the first cell in which the two differ decides."""
    for field in section_fields(one, other, 0):
        pair = (word_of(one, field), word_of(other, field))
        if pair[0] != pair[1]:
            return -1 if stock_place(mentioned, pair[0]) < stock_place(mentioned, pair[1]) else 1
    for field in section_fields(one, other, 1):
        for index in range(50):
            pair = (part_of(one, field, index), part_of(other, field, index))
            if pair[0] != pair[1]:
                return -1 if stock_place(mentioned, pair[0]) < stock_place(mentioned, pair[1]) else 1
    for field in section_fields(one, other, 2):
        mine, theirs = set(members_of(one, field)), set(members_of(other, field))
        if mine != theirs:
            last = max(mine ^ theirs, key=lambda word: stock_place(mentioned, word))
            return 1 if last in mine else -1
    for field in section_fields(one, other, 3):
        pair = (number_of(one, field), number_of(other, field))
        if pair[0] != pair[1]:
            if abs(pair[0]) != abs(pair[1]):
                return -1 if abs(pair[0]) < abs(pair[1]) else 1
            return -1 if pair[0] > 0 else 1
    return 0


class CompareTest(unittest.TestCase):
    def earlier(self, one, other, mentioned=()):
        self.assertEqual(compare_requests(mentioned, one, other), -1)
        self.assertEqual(compare_requests(mentioned, other, one), 1)
        self.assertEqual(compare_requests(mentioned, one, one), 0)

    def test_the_example(self):
        one = make_request(words=[("who", "zoe")])
        other = make_request(words=[("who", "b")])
        self.earlier(one, other, ("zoe",))
        self.earlier(other, one)

    def test_word_cells(self):
        self.earlier(EMPTY, make_request(words=[("w", "a")]))
        self.earlier(make_request(words=[("w", "z")]), make_request(words=[("w", "aa")]))
        # The first field in alphabetical order decides, not the one that stands first in a request.
        self.earlier(make_request(words=[("b", "z")]), make_request(words=[("a", "a")]))
        self.earlier(make_request(words=[("a", "a"), ("b", "z")]), make_request(words=[("a", "b"), ("b", "a")]))
        self.earlier(make_request(words=[("b", "z")]), make_request(words=[("aa", "a")]))
        self.earlier(make_request(words=[("ab", "z")]), make_request(words=[("a", "a")]))

    def test_path_cells(self):
        self.earlier(EMPTY, make_request(paths=[("p", ["a"])]))
        self.earlier(make_request(paths=[("p", ["a", "z"])]), make_request(paths=[("p", ["b"])]))
        self.earlier(make_request(paths=[("p", ["a"])]), make_request(paths=[("p", ["a", "a"])]))
        self.earlier(make_request(paths=[("p", ["x", "z", "b"])]), make_request(paths=[("p", ["x", "aa", "a"])]))
        self.earlier(make_request(paths=[("q", ["z", "z"])]), make_request(paths=[("p", ["a"])]))
        self.earlier(
            make_request(paths=[("p", ["x", "a"]), ("q", ["z"])]), make_request(paths=[("p", ["x", "b"])])
        )
        self.earlier(make_request(paths=[("p", ["m"])]), make_request(paths=[("p", ["a"])]), ("m",))

    def test_set_cells(self):
        self.earlier(EMPTY, make_request(sets=[("s", ["a"])]))
        self.earlier(make_request(sets=[("s", ["a", "b"])]), make_request(sets=[("s", ["c"])]))
        self.earlier(make_request(sets=[("s", ["b", "z"])]), make_request(sets=[("s", ["a", "aa"])]))
        self.earlier(make_request(sets=[("s", ["a", "z"])]), make_request(sets=[("s", ["b", "z"])]))
        self.earlier(make_request(sets=[("s", ["z"])]), make_request(sets=[("s", ["a", "z"])]))
        self.earlier(make_request(sets=[("s", ["m"])]), make_request(sets=[("s", ["a"])]), ("m",))
        self.earlier(make_request(sets=[("s", ["m", "n"])]), make_request(sets=[("s", ["a"])]), ("m", "n"))
        self.earlier(make_request(sets=[("t", ["z"])]), make_request(sets=[("s", ["a"])]))

    def test_number_cells(self):
        order = [0, 1, -1, 2, -2, 3, -3, 10, -10, BIG, -BIG, BIG + 1, -BIG - 1]
        requests = [make_request(numbers=[("n", number)]) for number in order]
        for one, other in itertools.combinations(requests, 2):
            self.earlier(one, other)
        self.earlier(make_request(numbers=[("n", 9)]), make_request(numbers=[("m", 1)]))

    def test_sections_in_order(self):
        values = {"words": "a", "paths": ["a"], "sets": ["a"], "numbers": 1}
        large = {"words": "zz", "paths": ["zz", "z"], "sets": ["zz"], "numbers": -99}
        for first, second in itertools.combinations(values, 2):
            # The field of the later section is first in the alphabet, and it does not matter.
            self.earlier(
                make_request(**{second: [("a", large[second])]}), make_request(**{first: [("z", values[first])]})
            )

    def test_mentioned_words_change_the_result(self):
        for section in ("paths", "sets"):
            one = make_request(**{section: [("f", ["zoe"])]})
            other = make_request(**{section: [("f", ["b"])]})
            self.earlier(other, one)
            self.earlier(one, other, ("zoe",))
            self.earlier(other, one, ("b", "zoe"))

    def test_equal_requests(self):
        arguments = {"words": [("a", "b")], "paths": [("a", ["b"])], "sets": [("a", ["b"])], "numbers": [("a", 7)]}
        self.assertEqual(compare_requests((), make_request(**arguments), make_request(**arguments)), 0)
        self.assertEqual(compare_requests(("a",), EMPTY, EMPTY), 0)

    def test_against_the_definition(self):
        dice = random.Random(8)
        stock = ["", "a", "b", "z", "aa", "m"]

        def some(words):
            return [dice.choice(words) for _ in range(dice.randrange(4))]

        def request():
            return make_request(
                words=[(field, dice.choice(stock)) for field in "ab" if dice.random() < 0.2],
                paths=[(field, some(stock[1:])) for field in "ab" if dice.random() < 0.3],
                sets=[(field, some(stock[1:])) for field in "ab" if dice.random() < 0.6],
                numbers=[(field, dice.randrange(-3, 4)) for field in "ab"],
            )

        for _ in range(3000):
            mentioned = tuple(sorted(set(some(["m", "b", "zz"]))))
            one, other = request(), request()
            expected = slow_compare(mentioned, one, other)
            self.assertEqual(compare_requests(mentioned, one, other), expected)
            self.assertEqual(compare_requests(mentioned, other, one), -expected)


if __name__ == "__main__":
    unittest.main()
