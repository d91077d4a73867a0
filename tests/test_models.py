import itertools
import random
import unittest

from samples import random_case
from whomaywhat.atoms import makes_true
from whomaywhat.models import is_possible, least_model
from whomaywhat.requests import compare_requests, make_request, members_of, part_of, word_of
from whomaywhat.sameness import find_steps
from whomaywhat.terms import value_of
from whomaywhat.words import stock_place, word_at

BIG = 10 ** 40
WHO, OWNER, MAKER = ("field", "who"), ("field", "owner"), ("field", "maker")
ANN, BOB, BLANK = ("name", "ann"), ("name", "bob"), ("name", "")
NOTHING = make_request()


def part(index, field="p"):
    return ("part", field, index)


def same(t, u, truth=True):
    return (("is", min(t, u), max(t, u)), truth)


def member(t, s, truth=True):
    return (("in", t, s), truth)


def within(s, target, truth=True):
    target = ("set", target) if isinstance(target, str) else ("names", target)
    return (("within", s, target), truth)


def most(x, y, c, truth=True):
    return (("most", x, y, c), truth)


def fields(count):
    return [("field", "f" + word_at(number + 1)) for number in range(count)]


def all_different(terms):
    return [same(t, u, False) for t, u in itertools.combinations(terms, 2)]


# Cases that no request meets but with all of their literals.
IMPOSSIBLE = (
    (same(WHO, ANN), same(WHO, ANN, False)),
    (same(WHO, ANN), same(WHO, OWNER), same(OWNER, BOB)),
    (same(part(1), BLANK), same(part(4), ANN)),
    (member(WHO, "s"), same(WHO, BLANK)),
    (member(WHO, "s"), within("s", "t"), within("t", "u"), member(WHO, "u", False)),
    (within("s", "t"), within("t", "u"), within("s", "u", False)),
    (within("s", ()), within("s", "t", False)),
    # These need a split by the words of a list.
    (member(WHO, "s"), within("s", ("ann",)), member(ANN, "t", False), member(WHO, "t")),
    (
        member(WHO, "s"), within("s", ("ann", "bob")), member(ANN, "t", False), member(BOB, "t", False),
        within("s", "t"),
    ),
    (member(WHO, "s"), member(OWNER, "s"), same(OWNER, WHO, False), within("s", ("ann",))),
    (
        member(WHO, "s"), within("s", ("ann", "bob")), member(OWNER, "t"), within("t", ("ann", "cid")),
        same(OWNER, WHO, False), member(("name", "cid"), "u", False), within("t", "u"),
        member(BOB, "v", False), within("s", "v"),
    ),
    # The words in a set that is not within the other are other words.
    (within("s", ("ann",)), within("s", "t", False), within("t", "s", False), within("t", ("ann",))),
    (within("s", ("ann", "bob")), within("s", "t", False), member(ANN, "t"), member(BOB, "t")),
    (within("s", ("ann", "bob"), False), within("s", ("ann", "bob", "cid")), member(("name", "cid"), "s", False)),
    (
        within("s", ("ann", "bob")), within("t", ("ann", "bob")), within("u", ("ann", "bob")),
        within("s", "t", False), within("t", "u", False), within("u", "s", False),
    ),
    # A set that lacks each word of its list, but has a member.
    (member(WHO, "s"), within("s", ("ann", "bob")), member(ANN, "s", False), member(BOB, "s", False)),
    (within("s", ("ann",)), member(ANN, "s", False), within("s", (), False)),
    # More members than the list has words.
    (*all_different(fields(4)), *[member(t, "s") for t in fields(4)], within("s", ("a", "b", "c"))),
    (*all_different(fields(3)), *[member(t, s) for t, s in zip(fields(3), "stu")],
     within("s", ("a", "b")), within("t", ("a", "b")), within("u", ("a", "b"))),
    # Rings of numbers.
    (most("x", "y", 3), most("x", "y", 3, False)),
    (most("", "x", -5), most("x", "y", 2), most("", "y", -3, False)),
    (most("x", "y", -BIG), most("x", "z", -BIG, False), most("y", "z", -1)),
)


class IsPossibleTest(unittest.TestCase):
    def test_impossible_cases(self):
        for case in IMPOSSIBLE:
            for literals in (case, case[::-1], case + case, (same(("field", "x"), part(9, "x")),) + case):
                self.assertIs(is_possible(literals), False, literals)
                self.assertIsNone(least_model((), literals))
                self.assertIsNone(least_model(("ann", "bob"), literals))

    def test_one_literal_fewer(self):
        for case in IMPOSSIBLE:
            for place in range(len(case)):
                literals = case[:place] + case[place + 1:]
                self.assertIs(is_possible(literals), True, literals)
                model = least_model(("ann",), literals)
                self.assertTrue(all(makes_true(model, literal) for literal in literals))

    def test_possible_cases(self):
        for case in (
            (), (same(WHO, ANN),), (same(WHO, BLANK),), tuple(all_different([*fields(6), BLANK, ANN])),
            (member(WHO, "s"), member(WHO, "t", False)), (within("s", "t"), within("t", "s")),
            (within("s", "t", False), within("t", "s", False)), (within("s", (), False), within("s", ("ann",))),
            (within("s", ("ann",)), within("s", "t", False), member(BOB, "t")), (same(part(40), BLANK, False),),
            (most("x", "y", 3), most("x", "y", 2, False)), (member(ANN, "s", False), within("s", ("ann", "bob"))),
        ):
            self.assertIs(is_possible(case), True, case)
            self.assertIs(is_possible(case[::-1]), True, case)

    def test_larger_sets(self):
        for count in (5, 9):
            terms = fields(count)
            literals = all_different(terms) + [member(t, "s") for t in terms]
            words = tuple(word_at(number + 1) for number in range(count))
            self.assertIs(is_possible((*literals, within("s", words))), True)
            self.assertIs(is_possible((*literals, within("s", words[1:]))), False)


class LeastModelTest(unittest.TestCase):
    def least(self, expected, *literals, mentioned=()):
        for order in (literals, literals[::-1]):
            model = least_model(mentioned, order)
            self.assertEqual(model, expected)
            self.assertTrue(all(makes_true(model, literal) for literal in literals))

    def words(self, expected, *literals, mentioned=()):
        self.least(make_request(words=list(expected.items())), *literals, mentioned=mentioned)

    def test_no_literals(self):
        self.least(NOTHING)
        self.least(NOTHING, mentioned=("a", "zoe"))

    def test_the_example(self):
        case = (same(WHO, BLANK, False), same(WHO, ("name", "zoe"), False))
        self.assertEqual(least_model(("zoe",), case), ((("who", "a"),), (), (), ()))

    def test_words(self):
        self.words({}, same(WHO, ANN, False))
        self.words({"who": "ann"}, same(WHO, ANN))
        self.words({}, same(WHO, OWNER))
        self.words({"owner": "ann", "who": "ann"}, same(WHO, OWNER), same(OWNER, ANN))
        self.words({"who": "a"}, same(WHO, BLANK, False))
        self.words({"who": "zoe"}, same(WHO, BLANK, False), mentioned=("zoe",))
        self.words({"who": "b"}, same(WHO, BLANK, False), same(WHO, ("name", "a"), False))
        self.words({"who": "ann"}, same(WHO, BLANK, False), mentioned=("ann", "zoe"))
        self.words({"who": "zoe"}, same(WHO, BLANK, False), same(WHO, ANN, False), mentioned=("ann", "zoe"))
        self.words({"who": "a"}, same(WHO, BLANK, False), same(WHO, ANN, False), mentioned=("ann",))

    def test_fields_that_differ(self):
        owner_first = {"who": "a"}
        self.words(owner_first, same(WHO, OWNER, False))
        self.words({"who": "zoe"}, same(WHO, OWNER, False), mentioned=("zoe",))
        both = (same(WHO, BLANK, False), same(OWNER, BLANK, False), same(WHO, OWNER, False))
        self.words({"owner": "a", "who": "b"}, *both)
        self.words({"owner": "m", "who": "a"}, *both, mentioned=("m",))
        self.words({"owner": "a", "who": "m"}, *both, mentioned=("a", "m"))
        self.words({"owner": "b", "who": "a"}, *both, same(OWNER, ("name", "a"), False))
        self.words({"owner": "b", "who": "z"}, *both, same(OWNER, ("name", "a"), False), mentioned=("b", "z"))
        self.words({"maker": "b", "owner": "c", "who": "d"}, *both, *all_different([WHO, OWNER, MAKER]),
                   *[same(t, ("name", "a"), False) for t in (WHO, OWNER, MAKER)], same(MAKER, BLANK, False))
        terms = fields(30)
        names = {t[1]: word_at(number) for number, t in enumerate(terms, 1)}
        case = all_different(terms) + [same(t, BLANK, False) for t in terms]
        self.words(dict(zip(sorted(names), [word_at(number + 1) for number in range(30)])), *case)

    def test_paths_have_no_gaps(self):
        def path(parts, *literals, mentioned=()):
            self.least(make_request(paths=[("p", parts)]), *literals, mentioned=mentioned)

        path([], same(part(3), ANN, False))
        path(["a", "a", "ann"], same(part(2), ANN))
        path(["zoe", "zoe", "ann"], same(part(2), ANN), mentioned=("zoe",))
        path(["a", "a", "a", "a"], same(part(3), BLANK, False))
        path(["b", "b", "c", "a"], same(part(3), ("name", "a")), same(part(2), ("name", "c")), mentioned=("b",))
        path(["a"] * 41, same(part(40), BLANK, False))
        path(["a", "c"], same(part(1), ("name", "c")), same(part(3), BLANK))
        path(["a", "b", "a"], same(part(0), part(1), False), same(part(2), BLANK, False))
        path([], same(part(0), part(2)))
        path(["a"], same(part(0), part(2), False))
        path(["a", "a", "b"], same(part(0), part(2), False), same(part(2), BLANK, False))
        path(["b", "a", "b"], same(part(0), part(2)), same(part(2), ("name", "b")))

    def test_several_paths(self):
        self.least(
            make_request(paths=[("p", ["b"]), ("q", ["a", "b"])]), same(part(0), part(1, "q")),
            same(part(1, "q"), ("name", "b")),
        )
        self.least(make_request(paths=[("q", ["a"])]), same(part(0), part(0, "q"), False))
        self.least(
            make_request(words=[("who", "a")], paths=[("p", ["a", "a"])]), same(WHO, part(1)), same(WHO, BLANK, False),
        )
        # The word comes before the paths, so it is the path that grows.
        self.least(make_request(paths=[("p", ["a", "a"])]), same(WHO, part(1), False))

    def sets(self, expected, *literals, mentioned=()):
        self.least(make_request(sets=list(expected.items())), *literals, mentioned=mentioned)

    def test_sets_with_names(self):
        self.sets({"s": ["ann"]}, member(ANN, "s"))
        self.sets({"s": ["ann", "bob"]}, member(ANN, "s"), member(BOB, "s"))
        self.sets({"s": ["ann"], "t": ["ann"], "u": ["ann"]}, member(ANN, "s"), within("s", "t"), within("t", "u"))
        self.sets({"t": ["ann"]}, member(ANN, "t"), within("s", "t"))
        self.sets({}, member(ANN, "s", False), within("s", ("bob",)))

    def test_members_of_sets(self):
        one = [("who", "a")]
        self.least(make_request(words=one, sets=[("s", ["a"])]), member(WHO, "s"))
        self.least(make_request(words=[("who", "b")], sets=[("s", ["b"])]), member(WHO, "s"), within("s", ("b", "c")))
        self.least(
            make_request(words=[("who", "c")], sets=[("s", ["c"])]), member(WHO, "s"), within("s", ("b", "c")),
            mentioned=("c",),
        )
        self.least(
            make_request(words=[("owner", "b"), ("who", "c")], sets=[("s", ["b", "c"])]), member(WHO, "s"),
            member(OWNER, "s"), same(WHO, OWNER, False), within("s", ("b", "c")),
        )
        # The first field cannot have the first word, for then none would be left for the other.
        self.least(
            make_request(words=[("owner", "c"), ("who", "b")], sets=[("s", ["b", "c"]), ("t", ["b"])]),
            member(WHO, "t"), member(OWNER, "s"), same(WHO, OWNER, False), within("s", ("b", "c")), within("t", "s"),
            within("t", ("b",)),
        )

    def test_sets_that_do_not_lie_within_their_targets(self):
        self.sets({"s": ["a"]}, within("s", "t", False))
        self.sets({"s": ["zoe"]}, within("s", "t", False), mentioned=("zoe",))
        self.sets({"s": ["b"]}, within("s", ("a",), False))
        self.sets({"s": ["b"]}, within("s", ("a",), False), mentioned=("a", "b"))
        self.sets({"s": ["a"], "t": ["b"]}, within("s", "t", False), within("t", "s", False))
        self.sets({"s": ["a"]}, within("s", "t", False), within("s", "u", False), within("s", (), False))
        self.sets({"s": ["b"], "t": ["a"]}, within("s", "t", False), member(("name", "a"), "t"))
        self.sets({"s": ["a"], "u": ["a", "b"]}, within("s", "t", False), within("u", "s", False), within("s", "u"))
        self.sets({"s": ["a", "b"], "u": ["a"]}, within("u", "t", False), within("u", "s"), within("s", "u", False))
        self.sets({"s": ["c"]}, within("s", "t", False), within("s", ("c", "d")))
        self.sets({"s": ["d"], "t": ["c"]}, within("s", "t", False), within("s", ("c", "d")), member(("name", "c"), "t"))

    def test_the_last_word_of_a_set_decides(self):
        # {a, b} is earlier than {c}.
        not_alone = (within("s", ("a",), False), within("s", ("b",), False))
        self.sets({"s": ["c"]}, *not_alone, member(("name", "a"), "s", False))
        self.sets({"s": ["a", "b"]}, *not_alone)
        self.sets({"s": ["a", "b"]}, *not_alone, mentioned=("b",))
        self.sets({"s": ["c"]}, *not_alone, mentioned=("b", "c"))
        self.sets({"s": ["a", "b"]}, *not_alone, mentioned=("a", "b", "c"))
        self.sets({"s": ["z"]}, *not_alone, mentioned=("z",))

    def test_numbers(self):
        self.least(make_request(numbers=[("x", 3), ("y", -2)]), most("", "x", -3), most("x", "y", 4, False))
        self.least(NOTHING, most("", "x", 3), most("x", "y", 4))
        self.least(make_request(numbers=[("x", -BIG)]), most("", "x", BIG - 1, False))
        self.least(make_request(numbers=[("y", BIG)]), most("x", "y", -BIG))

    def test_all_sections(self):
        self.least(
            make_request(
                words=[("who", "ann")], paths=[("who", ["a", "ann"])], sets=[("who", ["ann"])], numbers=[("who", 1)],
            ),
            same(WHO, ANN), same(WHO, part(1, "who")), member(WHO, "who"), most("", "who", -1),
        )

    def test_mentioned_words_without_the_words_of_the_case(self):
        case = (same(WHO, BLANK, False), same(WHO, ("name", "b"), False), same(OWNER, ("name", "c")))
        self.words({"owner": "c", "who": "a"}, *case)
        self.words({"owner": "c", "who": "m"}, *case, mentioned=("m", "n"))
        self.words({"owner": "c", "who": "a"}, *case, mentioned=("b",))
        self.words({"owner": "c", "who": "c"}, *case, mentioned=("b", "c"))

    def test_large_cases(self):
        terms = fields(20)
        words = tuple(sorted(word_at(number + 1) for number in range(8)))
        case = [member(t, "s") for t in terms] + [within("s", words)]
        case += [same(t, u, False) for t, u in zip(terms, terms[1:])]
        values = {t[1]: "ab"[place % 2] for place, t in enumerate(sorted(terms))}
        self.least(make_request(words=list(values.items()), sets=[("s", ["a", "b"])]), *case)
        sets = ["s" + letter for letter in "abcdefgh"]
        case = [within(s, t, False) for s, t in itertools.permutations(sets, 2)]
        model = least_model((), tuple(case))
        self.assertTrue(all(makes_true(model, literal) for literal in case))
        self.least(make_request(sets=[(s, [letter]) for s, letter in zip(sets, "abcdefgh")]), *case)


class SmallBoxTest(unittest.TestCase):
    """Compares least models with the first request of a small box that meets the case."""

    def first_in_box(self, mentioned, case, words, sets):
        """The words f and g, the path p of up to two parts, and these sets over these words."""
        stock = sorted(words, key=lambda word: stock_place(mentioned, word))
        paths = [()] + [(one,) + more for one in stock for more in [()] + [(two,) for two in stock]]
        subsets = [frozenset()]
        for word in stock:
            subsets += [subset | {word} for subset in subsets]
        about_words = [literal for literal in case if literal[0][0] == "is"]
        about_sets = [literal for literal in case if literal[0][0] != "is"]
        terms = {term for (_, one, other, *_), _ in case for term in (one, other)}
        # What nothing speaks of is the blank.
        words_of_f, words_of_g = ([""] + stock * (("field", field) in terms) for field in "fg")
        paths = paths if any(term[0] == "part" for term in terms) else [()]
        for f, g, p in itertools.product(words_of_f, words_of_g, paths):
            request = make_request(words=[("f", f), ("g", g)], paths=[("p", p)])
            if all(makes_true(request, literal) for literal in about_words):
                chosen = self.first_sets(about_sets, request, {field: subsets for field in sets}, {})
                if chosen is not None:
                    return make_request(words=request[0], paths=request[1], sets=[(s, list(chosen[s])) for s in sets])
        return None

    def first_sets(self, literals, request, choices, chosen):
        """The first choice of sets that makes the literals true, field by field."""
        if not choices:
            return chosen
        field, *later = choices
        for subset in choices[field]:
            values = {**chosen, field: subset}
            if all(self.may_be_true(literal, request, values) for literal in literals):
                found = self.first_sets(literals, request, {name: choices[name] for name in later}, values)
                if found is not None:
                    return found
        return None

    def may_be_true(self, literal, request, values):
        """False if the literal is not true, whatever the sets are that have no value yet."""
        (kind, one, other), truth = literal
        if kind == "in":
            return other not in values or (value_of(one, request) in values[other]) == truth
        target = values.get(other[1]) if other[0] == "set" else set(other[1])
        return one not in values or target is None or (values[one] <= target) == truth

    def compare(self, dice, case, mentioned, words, sets):
        """Whether the box was wide enough to tell."""
        model = least_model(mentioned, case)
        self.assertIs(is_possible(case), model is not None)
        self.assertEqual(least_model(mentioned, case[::-1]), model)
        if model is not None:
            self.assertTrue(all(makes_true(model, literal) for literal in case), case)
            used = {word for _, word in model[0]} | {w for _, value in model[1] + model[2] for w in value}
            if not used <= set(words):
                return False
        self.assertEqual(self.first_in_box(mentioned, case, words, sets), model, (mentioned, case))
        return True

    def test_words_parts_and_sets(self):
        dice = random.Random(37)
        told = 0
        for _ in range(250):
            case = random_case(dice, dice.randrange(1, 9), sets="st", parts=2)
            mentioned, words = dice.choice(((("a", "b", "c"), "abcd"), (("b", "zoe"), ["a", "b", "c", "zoe"]), ((), "abcd")))
            told += self.compare(dice, case, mentioned, list(words), "st")
        self.assertGreater(told, 200)

    def test_three_sets(self):
        dice = random.Random(38)
        told = 0
        for _ in range(200):
            case = []
            while len(case) < dice.randrange(2, 10):
                if dice.random() < 0.25:
                    case.append(member(("name", dice.choice("abc")), dice.choice("stu"), dice.random() < 0.5))
                elif dice.random() < 0.6:
                    case.append(within(*dice.sample("stu", 2), dice.random() < 0.35))
                else:
                    words = tuple(sorted(dice.sample("abc", dice.randrange(4))))
                    case.append(within(dice.choice("stu"), words, dice.random() < 0.5))
            mentioned, words = dice.choice(((("a", "b", "c"), "abcde"), (("b", "z"), "abczd"), ((), "abcde")))
            told += self.compare(dice, tuple(case), mentioned, list(words), "stu")
        self.assertGreater(told, 150)

    def test_all_requests_of_a_box_in_their_order(self):
        """The order is that of compare_requests, and every request of the box is tried."""
        dice = random.Random(39)
        mentioned = ("b",)
        stock = ["", "b", "a"]
        requests = [
            make_request(words=[("f", f)], paths=[("p", p)], sets=[("s", s)], numbers=[("x", x)])
            for f in stock for p in ((), ("b",), ("a",), ("b", "a"), ("a", "a"))
            for s in ((), ("b",), ("a",), ("a", "b")) for x in (0, 1, -1)
        ]
        terms = [("field", "f"), ("name", ""), ("name", "a"), ("name", "b"), ("part", "p", 0), ("part", "p", 1)]
        told = 0
        for _ in range(400):
            case = []
            for _ in range(dice.randrange(1, 6)):
                t, u = sorted(dice.sample(terms, 2))
                case.append(dice.choice((
                    same(t, u, dice.random() < 0.5), member(("field", "f"), "s", dice.random() < 0.5),
                    within("s", dice.choice(((), ("a",), ("b",), ("a", "b"))), dice.random() < 0.5),
                    most("", "x", dice.choice((-1, 0)), dice.random() < 0.5),
                )))
            meeting = [request for request in requests if all(makes_true(request, literal) for literal in case)]
            model = least_model(mentioned, tuple(case))
            if model in requests:
                told += 1
                self.assertIn(model, meeting)
                self.assertTrue(all(compare_requests(mentioned, model, request) <= 0 for request in meeting), case)
            elif meeting:
                self.assertTrue(all(compare_requests(mentioned, model, request) < 0 for request in meeting), case)
        self.assertGreater(told, 150)


def tight_case(dice):
    """A case with many terms in few sets that lie within short lists."""
    terms = [("field", letter) for letter in "fghij"]
    case = [within(s, tuple(sorted(dice.sample("abc", dice.randrange(1, 4))))) for s in "stu" if dice.random() < 0.8]
    for _ in range(dice.randrange(4, 14)):
        case.append(dice.choice((
            same(*dice.sample(terms, 2), dice.random() < 0.15), same(*dice.sample(terms, 2), dice.random() < 0.15),
            member(dice.choice(terms), dice.choice("stu"), dice.random() < 0.8),
            member(dice.choice(terms), dice.choice("stu"), dice.random() < 0.8),
            member(("name", dice.choice("abc")), dice.choice("stu"), dice.random() < 0.3),
            within(*dice.sample("stu", 2), dice.random() < 0.4),
        )))
    dice.shuffle(case)
    return tuple(case)


def terms_to_split(case):
    """The terms for which a member of a list may stand."""
    terms = {atom[1] for atom, truth in case if atom[0] == "in" and truth and atom[1][0] != "name"}
    return sorted(terms | {("other", *atom[1:]) for atom, truth in case if atom[0] == "within" and not truth})


def colouring_case(dice):
    """A case in which each field is in some list, and many fields are different."""
    terms = [("field", letter) for letter in "fghijk"]
    case = [within(s, tuple(sorted(dice.sample("abcd", dice.randrange(2, 4))))) for s in "stu"]
    case += [member(term, dice.choice("stu")) for term in terms]
    case += [same(t, u, False) for t, u in itertools.combinations(terms, 2) if dice.random() < 0.55]
    for _ in range(dice.randrange(5)):
        case.append(dice.choice((
            member(("name", dice.choice("abcd")), dice.choice("stuv"), dice.random() < 0.3),
            member(dice.choice(terms), "v", dice.random() < 0.5), within(dice.choice("stu"), "v"),
            same(dice.choice(terms), ("name", dice.choice("abcd")), False),
        )))
    dice.shuffle(case)
    return tuple(case)


class ColouringTest(unittest.TestCase):
    def least_words(self, case, words, letters):
        """The first words for the fields that some sets go with; the sets have only what they must."""
        if not letters:
            return words if self.goes_with_some_sets(case, words) else None
        for word in "abcd":
            values = {**words, letters[0]: word}
            if all(self.may_differ(values, t, u) for (kind, t, u), _ in case if kind == "is"):
                found = self.least_words(case, values, letters[1:])
                if found is not None:
                    return found
        return None

    def may_differ(self, values, *terms):
        one, other = (values.get(term[1]) if term[0] == "field" else term[1] for term in terms)
        return one is None or other is None or one != other

    def goes_with_some_sets(self, case, words):
        request = make_request(words=list(words.items()))
        sets = {field: set() for field in "stuv"}
        for (kind, term, field), truth in case:
            if kind == "in" and truth:
                sets[field].add(value_of(term, request))
        for (kind, field, target), _ in case:
            if kind == "within" and target == ("set", "v"):
                sets["v"] |= sets[field]
        request = make_request(words=request[0], sets=[(field, sorted(sets[field])) for field in sets])
        return all(makes_true(request, literal) for literal in case)

    def test_random_cases(self):
        dice = random.Random(7)
        seen = []
        for _ in range(600):
            case = colouring_case(dice)
            expected = self.least_words(case, {}, "fghijk")
            seen.append(expected is not None)
            self.assertIs(is_possible(case), seen[-1])
            model = least_model((), case)
            self.assertEqual(model if model is None else dict(model[0]), expected)
        self.assertGreater(seen.count(True), 100)
        self.assertGreater(seen.count(False), 100)

    def test_the_first_word_that_fits_a_field_leaves_too_few(self):
        # The fields g and h are a and c, so f cannot be a, each time for another reason.
        for letters in itertools.permutations("fgh"):
            f, g, h = (("field", letter) for letter in letters)
            base = (
                same(g, h, False), member(f, "s"), member(g, "t"), member(h, "t"), within("s", ("a", "b")),
                within("t", ("a", "c")),
            )
            for more in (
                (same(f, g, False), same(f, h, False)),
                (same(f, g, False), same(f, h, False), member(("name", "a"), "s")),
                (within("t", "v"), member(f, "v", False), member(("name", "a"), "s")),
                (within("t", "v"), member(f, "v", False)),
                (member(g, "s", False), member(h, "s", False)),
                (member(g, "s", False), member(h, "s", False), member(f, "t", False)),
            ):
                for case in (base[1:] + base[:1] + more, more + base, (base + more)[::-1]):
                    self.assertIs(is_possible(case), True)
                    self.assertIs(is_possible((*case, member(("name", "b"), "s", False))), False)
                    self.assertEqual(word_of(least_model((), case), f[1]), "b")


    def test_two_fields_that_must_be_the_same(self):
        # Two fields g and h that differ leave only one of three words to f and k.
        for letters in itertools.permutations("fghk"):
            f, g, h, k = (("field", letter) for letter in letters)
            case = (
                member(f, "s"), member(k, "t"), member(g, "t"), member(h, "t"), within("s", ("a", "b")),
                within("t", ("a", "b", "c")), same(k, ("name", "a"), False), same(g, h, False),
                *[same(t, u, False) for t in (f, k) for u in (g, h)],
            )
            for literals in (case, case[::-1]):
                model = least_model((), literals)
                self.assertEqual((word_of(model, f[1]), word_of(model, k[1])), ("b", "b"))
                self.assertIs(is_possible((*literals, same(f, k, False))), False)


class NoEarlierValueTest(unittest.TestCase):
    MENTIONED = ("b", "zoe")

    def earlier_words(self, word):
        """The words before this one in the stock order."""
        place = stock_place(self.MENTIONED, word)
        known = [*self.MENTIONED, *[word_at(number) for number in range(1, place[1] + 1) if place[0] == 2]]
        return {other for other in known if stock_place(self.MENTIONED, other) < place}

    def check_word(self, case, term, value):
        """The literals that say that the term has this value."""
        for word in {"", *self.earlier_words(value)} if value else ():
            self.assertIs(is_possible((*case, same(term, ("name", word)))), False, (case, term, word))
        return (same(term, ("name", value)),)

    def check_set(self, case, field, members):
        """The literals that say that the set has these members."""
        for word in members:
            later = [other for other in members if word in self.earlier_words(other)]
            names = tuple(sorted({*later, *self.earlier_words(word)}))
            known = [member(("name", other), field) for other in later]
            self.assertIs(is_possible((*case, *known, within(field, names))), False, (case, field, word))
        return (within(field, members), *[member(("name", word), field) for word in members])

    def test_each_cell(self):
        """With the cells before it as they are, no cell of a least model can have an earlier value."""
        dice = random.Random(8)
        checked = 0
        for _ in range(300):
            case = tight_case(dice) if dice.random() < 0.5 else random_case(dice, dice.randrange(1, 14), words="abcd")
            model = least_model(self.MENTIONED, case)
            if model is not None:
                checked += 1
                for letter in "fghij":
                    case += self.check_word(case, ("field", letter), word_of(model, letter))
                for index in range(4):
                    case += self.check_word(case, ("part", "p", index), part_of(model, "p", index))
                for field in "stu":
                    case += self.check_set(case, field, members_of(model, field))
                self.assertIs(is_possible(case), True)
        self.assertGreater(checked, 100)


class SplitTest(unittest.TestCase):
    """Point [36]: split by the words of the lists, each impossible case of words and sets closes."""

    def closes(self, case, terms, words):
        if find_steps(case):
            return True
        known = {atom for atom, _ in case}
        for term, word in itertools.product(terms, words):
            atom = same(term, ("name", word))[0]
            if atom not in known:
                return all(self.closes((*case, (atom, truth)), terms, words) for truth in (True, False))
        return False

    def test_random_cases(self):
        dice = random.Random(36)
        split = 0
        for _ in range(800):
            case = tight_case(dice)
            model = least_model((), case)
            self.assertIs(is_possible(case), model is not None)
            if model is not None:
                self.assertTrue(all(makes_true(model, literal) for literal in case))
                self.assertEqual(find_steps(case), ())
            elif not find_steps(case):
                split += 1
                self.assertTrue(self.closes(case, terms_to_split(case), "abc"), case)
        self.assertGreater(split, 40)


if __name__ == "__main__":
    unittest.main()
