import itertools
import random
import unittest

from questions import (
    BLANK, NO, OWNER, POOLS, WHO, WIDE, YES, answers, box_size, name, part, primitive_condition, random_question,
    random_view, splits_twice, stock_of,
)
from test_models import colouring_case, tight_case
from whomaywhat.comparing import compare
from whomaywhat.directory import Directory
from whomaywhat.models import least_model
from whomaywhat.ordering import earlier_than, question_cells
from whomaywhat.papers import judge
from whomaywhat.plainly import first_answer, number_bound
from whomaywhat.requests import compare_requests, make_request
from whomaywhat.trimming import trimmed
from whomaywhat.views import mentioned_words, question_atoms, view_of
from whomaywhat.words import word_at

BIG = 10 ** 60
NOTHING = make_request()
EVERYTHING = (("a", "permit", 0, YES),)


def permits(*conditions):
    return tuple((word_at(place + 1), "permit", 0, condition) for place, condition in enumerate(conditions))


def everything(*conditions):
    return ("all", conditions)


def isnt(term, word):
    return ("not", ("is", term, name(word)))


class CompareCase(unittest.TestCase):
    def checked(self, left, right, where=YES):
        """What compare returns, after everything was checked that shows without other requests."""
        result = compare(left, right, where=where)
        self.assertIs(type(result), tuple)
        paper = result[-1]
        self.assertIs(type(paper), tuple)
        self.assertFalse(splits_twice(paper))
        if result[0] == "apart":
            _, request, _ = result
            self.assertTrue(answers(left, right, where, request))
            self.check_place(left, right, where, request)
            where = ("all", (where, earlier_than(left, right, where, request)))
        else:
            self.assertEqual((len(result), result[0]), (2, "none"))
        self.assertIs(judge(left, right, where, paper), True)
        return result

    def check_place(self, left, right, where, request):
        """The request has its one form and belongs to the box."""
        words, paths, sets, numbers = request
        self.assertEqual(make_request(words=words, paths=paths, sets=sets, numbers=numbers), request)
        cells, stock = question_cells(left, right, where), stock_of((left, right, where))
        for kind, section in (("word", words), ("set", sets), ("number", numbers)):
            self.assertLessEqual({(kind, field) for field, _ in section}, set(cells))
        self.assertLessEqual({("part", f, index) for f, path in paths for index in range(len(path))}, set(cells))
        self.assertLessEqual({word for _, word in words} | {w for _, ws in paths + sets for w in ws}, set(stock))
        bound = number_bound(left, right, where)
        self.assertTrue(all(abs(number) <= bound for _, number in numbers))

    def apart(self, request, left, right, where=YES):
        self.assertEqual(self.checked(left, right, where)[:2], ("apart", request))

    def none(self, left, right, where=YES):
        self.assertEqual(self.checked(left, right, where)[0], "none")


class CompareTest(CompareCase):
    def test_the_example(self):
        left = (("all", "permit", 0, ("most", "size", "", 9)),)
        right = (("some", "permit", 0, ("most", "size", "", 4)),)
        self.assertEqual(compare(left, right)[:2], ("apart", ((), (), (), (("size", 5),))))
        self.apart(make_request(numbers=[("size", 5)]), left, right)
        self.none(right, left)

    def test_no_rules(self):
        self.none((), ())
        self.none((), EVERYTHING)
        self.none((), permits(("in", WHO, "s")))
        self.apart(NOTHING, EVERYTHING, ())
        self.apart(make_request(sets=[("s", ["b"])]), permits(("in", name("b"), "s")), ())
        self.none(permits(NO), ())
        self.none((("a", "forbid", 0, YES),), ())
        self.apart(NOTHING, EVERYTHING, (("a", "forbid", 0, YES),))

    def test_where(self):
        who = permits(("is", WHO, name("ann")))
        self.assertEqual(compare(who, ()), compare(who, (), where=YES))
        self.none(who, (), NO)
        self.none(who, (), ("is", WHO, BLANK))
        self.none(who, (), isnt(WHO, "ann"))
        self.apart(make_request(words=[("who", "ann")]), who, (), ("is", WHO, name("ann")))
        self.apart(make_request(words=[("owner", "ann"), ("who", "ann")]), who, (), isnt(OWNER, ""))
        self.apart(make_request(words=[("who", "ann")], numbers=[("x", -7)]), who, (), ("most", "x", "", -7))
        # A word that only the condition mentions comes before all words that are not mentioned.
        self.apart(make_request(words=[("who", "zoe")]), EVERYTHING, permits(("is", WHO, BLANK)), isnt(OWNER, "zoe"))

    def test_words(self):
        self.apart(make_request(words=[("who", "ann")]), permits(("is", WHO, name("ann"))), ())
        self.apart(make_request(words=[("who", "a")]), permits(isnt(WHO, "")), ())
        self.apart(make_request(words=[("who", "b")]), permits(everything(isnt(WHO, ""), isnt(WHO, "a"))), ())
        self.apart(make_request(words=[("who", "zoe")]), permits(isnt(WHO, "")), permits(("is", WHO, name("b"))),
                   ("any", (isnt(OWNER, "zoe"), NO)))
        self.apart(NOTHING, permits(("is", WHO, OWNER)), ())
        self.apart(make_request(words=[("who", "a")]), permits(("not", ("is", WHO, OWNER))), ())
        self.apart(
            make_request(words=[("owner", "a"), ("who", "b")]),
            permits(everything(("not", ("is", WHO, OWNER)), isnt(WHO, ""), isnt(OWNER, ""))), (),
        )
        self.none(permits(everything(("is", WHO, OWNER), ("is", WHO, name("a")), isnt(OWNER, "a"))), ())
        self.none(permits(("is", WHO, name("a"))), permits(("is", name("a"), WHO)))

    def test_paths(self):
        self.apart(
            make_request(paths=[("p", ["a", "b"])]), permits(("is", part(1), name("b")), NO), (), isnt(part(0), "b"),
        )
        self.apart(make_request(paths=[("p", ["b", "b"])]), permits(("is", part(1), name("b"))), ())
        self.none(permits(everything(("is", part(0), BLANK), isnt(part(2), ""))), ())
        self.none(permits(everything(("is", part(3), name("x")), ("is", part(1), BLANK))), ())
        self.apart(make_request(paths=[("p", ["a"] * 41)]), permits(isnt(part(40), "")), ())
        self.apart(
            make_request(paths=[("p", ["home", "home", "home"])]), permits(("is", part(2), name("home"))),
            permits(("is", part(0), BLANK)),
        )
        self.apart(
            make_request(words=[("who", "a")], paths=[("p", ["home", "a"])]),
            view_of([("a", "permit", 0, ("under", "p", (name("home"), WHO)))], Directory()), (),
            isnt(WHO, "home"),
        )
        one = view_of([("a", "permit", 0, ("under", "p", (name("home"),)))], Directory())
        other = view_of([("a", "permit", 0, ("at", "p", (name("home"),)))], Directory())
        self.none(other, one)
        self.apart(make_request(paths=[("p", ["home", "home"])]), one, other)

    def test_sets(self):
        self.apart(make_request(words=[("who", "a")], sets=[("s", ["a"])]), permits(("in", WHO, "s")), ())
        self.none(permits(everything(("in", WHO, "s"), ("is", WHO, BLANK))), ())
        self.none(permits(everything(("in", WHO, "s"), ("within", "s", ("set", "t")))), permits(("in", WHO, "t")))
        self.none(
            permits(everything(*[("within", *pair) for pair in (("s", ("set", "t")), ("t", ("set", "u")))])),
            permits(("within", "s", ("set", "u"))),
        )
        self.apart(make_request(sets=[("s", ["a"])]), EVERYTHING, permits(("within", "s", ("set", "t"))))
        self.apart(
            make_request(sets=[("s", ["a"]), ("t", ["b"])]),
            permits(everything(("not", ("within", "s", ("set", "t"))), ("not", ("within", "t", ("set", "s"))))), (),
        )
        self.apart(make_request(sets=[("s", ["c"])]), EVERYTHING, permits(("within", "s", ("names", ("a", "b")))))
        self.none(permits(("within", "s", ("names", ("a",)))), permits(("within", "s", ("names", ("a", "b")))))
        self.apart(
            make_request(sets=[("s", ["b"])]), permits(("within", "s", ("names", ("a", "b")))),
            permits(("within", "s", ("names", ("a",)))),
        )

    def test_members_of_lists(self):
        """A member of a set that lies within a list is some word of the list: that needs splits."""
        listed = ("within", "s", ("names", ("a", "b")))
        neither = everything(("in", WHO, "s"), listed, isnt(WHO, "a"), isnt(WHO, "b"))
        self.none(permits(neither), ())
        self.none(
            permits(everything(("in", WHO, "s"), listed)),
            permits(("is", WHO, name("a")), everything(("is", WHO, name("b")), ("in", name("b"), "s"))),
        )
        known = [("in", name(word), "t") for word in ("a", "b")]
        self.none(permits(everything(listed, ("not", ("within", "s", ("set", "t"))), *known)), ())
        differ = [("not", ("is", *pair)) for pair in itertools.combinations([WHO, OWNER, part(0)], 2)]
        members = [("in", term, "s") for term in (WHO, OWNER, part(0))]
        self.none(permits(everything(listed, *differ, *members)), ())
        three = ("within", "s", ("names", ("a", "b", "c")))
        self.apart(
            make_request(words=[("owner", "a"), ("who", "b")], paths=[("p", ["c"])], sets=[("s", ["a", "b", "c"])]),
            permits(everything(three, *differ, *members)), (),
        )

    def test_numbers(self):
        self.apart(make_request(numbers=[("x", -1)]), EVERYTHING, permits(("most", "", "x", 0)))
        self.apart(make_request(numbers=[("x", 1)]), EVERYTHING, permits(("most", "x", "", 0)))
        self.apart(make_request(numbers=[("y", -2)]), permits(("most", "y", "x", -2)), (), ("most", "x", "", 1))
        self.apart(make_request(numbers=[("x", 2)]), permits(("most", "y", "x", -2)), (), ("most", "", "y", 0))
        self.none(permits(everything(("most", "x", "y", 2), ("most", "y", "z", 3))), permits(("most", "x", "z", 5)))
        self.apart(
            make_request(numbers=[("y", -2), ("z", -5)]),
            permits(everything(("most", "x", "y", 2), ("most", "y", "z", 3))), permits(("most", "x", "z", 4)),
        )
        self.apart(make_request(numbers=[("x", BIG)]), permits(("most", "", "x", -BIG)), ())
        self.apart(make_request(numbers=[("x", -BIG)]), permits(("most", "x", "", -BIG)), ())
        self.none(permits(("most", "x", "y", -BIG)), permits(("most", "x", "y", BIG)))
        self.apart(
            make_request(numbers=[("y", -BIG - 1)]), EVERYTHING, permits(("most", "x", "y", BIG)),
            ("most", "x", "", 0),
        )
        self.none(permits(("most", "x", "x", -1)), ())
        self.apart(NOTHING, permits(("most", "x", "x", 0)), ())

    def test_ranks_and_effects(self):
        ann, bob = ("is", WHO, name("ann")), ("is", WHO, name("bob"))
        left = (("a", "permit", 1, ann), ("b", "forbid", 0, YES))
        self.apart(make_request(words=[("who", "ann")]), left, (("a", "permit", 0, ann), ("b", "forbid", 0, YES)))
        self.none((("a", "permit", 0, ann), ("b", "forbid", 0, YES)), left)
        self.none((("a", "permit", BIG, ann), ("b", "forbid", BIG + 1, YES)), ())
        self.none(left, permits(ann))
        self.none(permits(ann), left)
        self.none(permits(("any", (ann, bob))), permits(ann, bob))
        self.none(permits(ann, bob), (("p", "permit", 3, ann), ("q", "permit", -3, bob), ("r", "forbid", -9, YES)))
        self.apart(
            make_request(words=[("who", "bob")]), permits(ann, bob),
            (("p", "permit", 3, ann), ("q", "permit", -9, bob), ("r", "forbid", -9, YES)),
        )

    def test_equal_views(self):
        dice = random.Random(1)
        for _ in range(150):
            view = random_view(dice, dice.choice((WIDE, *POOLS)), 5)
            where = primitive_condition(dice, WIDE, 3)
            self.none(view, view)
            self.none(view, view, where)
            self.none((), view, where)
            # The names of rules do not matter.
            renamed = tuple(("x" + rule[0], *rule[1:]) for rule in view)
            self.none(view, renamed)

    def test_views_against_no_rules(self):
        dice = random.Random(2)
        seen = set()
        for _ in range(150):
            view = random_view(dice, WIDE, 5)
            kind = self.checked(view, ())[0]
            seen.add(kind)
            self.none((), view)
            self.assertEqual(kind, compare(view, (("z", "forbid", -5, YES),))[0])
        self.assertEqual(seen, {"none", "apart"})


class WalkTest(CompareCase):
    def test_small_boxes(self):
        """The walk through the box comes to the same."""
        dice = random.Random(47)
        seen = {"none": 0, "apart": 0}
        while min(seen.values()) < 250:
            question = random_question(dice, dice.choice(POOLS), 3)
            if box_size(question) <= 3000:
                result = self.checked(*question)
                seen[result[0]] += 1
                answer = first_answer(*question)
                self.assertEqual(result[:-1], ("none",) if answer is None else ("apart", answer), question)

    def test_larger_questions(self):
        dice = random.Random(48)
        seen = {"none": 0, "apart": 0}
        for _ in range(400):
            left, right, where = random_question(dice, WIDE, 5)
            result = self.checked(left, right, where)
            seen[result[0]] += 1
            paper = result[-1]
            if result[0] == "apart":
                where = ("all", (where, earlier_than(left, right, where, result[1])))
            shorter = trimmed(left, right, where, paper)
            self.assertIs(judge(left, right, where, shorter), True)
            self.assertEqual(trimmed(left, right, where, shorter), shorter)
        self.assertGreater(min(seen.values()), 60)

    def test_a_question_cut_in_two(self):
        dice = random.Random(49)
        for _ in range(150):
            left, right, where = random_question(dice, WIDE, 4)
            # The cut speaks of what the question speaks of, so that the order stays the same.
            conditions = [rule[3] for rule in left + right] or [YES]
            cut = dice.choice(conditions)
            halves = [self.checked(left, right, ("all", (where, one))) for one in (cut, ("not", cut))]
            found = [half[1] for half in halves if half[0] == "apart"]
            result = compare(left, right, where=where)
            self.assertEqual(result[0] == "apart", bool(found))
            if found:
                mentioned = mentioned_words(left, right, where)
                self.assertIn(result[1], found)
                self.assertTrue(all(compare_requests(mentioned, result[1], one) <= 0 for one in found))

    def test_tight_cases(self):
        """The least model of a case is the earliest request that a rule of the same words permits."""
        dice = random.Random(50)
        seen = {"none": 0, "apart": 0}
        for _ in range(120):
            case = dice.choice((tight_case, colouring_case))(dice)
            condition = everything(*[atom if truth else ("not", atom) for atom, truth in case])
            for left, right, where in (
                (permits(condition), (), YES), (EVERYTHING, permits(("not", condition)), YES),
                (EVERYTHING, (), condition),
            ):
                result = self.checked(left, right, where)
                model = least_model(mentioned_words(left, right, where), case)
                self.assertEqual(result[:-1], ("none",) if model is None else ("apart", model))
                seen[result[0]] += 1
        self.assertGreater(min(seen.values()), 80)


class LargeQuestionTest(CompareCase):
    """Calls end within the bounds of point [3]."""
    WORDS = tuple("w" + word_at(number + 1) for number in range(60))

    def all_kinds(self, view):
        self.none(view, view)
        self.none((), view)
        self.checked(view, ())
        for place in (0, len(view) // 2, len(view) - 1):
            shorter = view[:place] + view[place + 1:]
            self.checked(view, shorter)
            self.checked(shorter, view)

    def test_sixty_words(self):
        view = tuple(sorted((word, "permit", 0, ("is", WHO, name(word))) for word in self.WORDS))
        self.assertEqual(len(question_atoms(view, (), YES)), 60)
        self.all_kinds(view)
        self.apart(make_request(words=[("who", "wba")]), view, tuple(rule for rule in view if rule[0] != "wba"))

    def test_eighty_rules(self):
        dice = random.Random(80)
        atoms = [("in", WHO, word) for word in self.WORDS[:20]] + [("is", WHO, name(word)) for word in self.WORDS[:20]]
        atoms += [("most", "size", "", 7 * number) for number in range(20)]
        view = tuple(
            ("r" + word_at(number + 27), dice.choice(("permit", "forbid")), dice.randrange(40), dice.choice(atoms))
            for number in range(80)
        )
        self.assertEqual(list(view), sorted(view, key=lambda rule: rule[0]))
        self.all_kinds(view)

    def test_ranks_in_a_row(self):
        dice = random.Random(60)
        view = tuple(sorted(
            (word, dice.choice(("permit", "forbid")), number, ("in", part(number % 4), word))
            for number, word in enumerate(self.WORDS)
        ))
        self.all_kinds(view)

    def test_sixty_numbers(self):
        fields = ["x" + word_at(number + 1) for number in range(30)]
        steps = [
            ("most", one, other, -(10 ** (place % 9))) for place, (one, other) in enumerate(zip(fields, fields[1:]))
        ]
        back = [("most", other, one, 10 ** 10) for one, other in zip(fields, fields[1:])]
        self.checked(permits(everything(*steps, *back)), ())
        self.none(permits(everything(*steps, ("most", fields[-1], fields[0], 5))), ())

    def test_long_paths_and_many_members(self):
        words = [("is", part(index), name(word)) for index, word in enumerate(self.WORDS[:25])]
        self.apart(make_request(paths=[("p", self.WORDS[:25])]), permits(everything(*words)), ())
        members = [("in", name(word), "s") for word in self.WORDS[:25]]
        self.apart(make_request(sets=[("s", self.WORDS[:25])]), permits(everything(*members)), ())
        outside = [
            ("not", ("within", "s", ("names", tuple(w for w in self.WORDS[:9] if w != word))))
            for word in self.WORDS[:9]
        ]
        self.apart(
            make_request(sets=[("s", self.WORDS[:9])]), permits(everything(*outside)), (),
            ("within", "s", ("names", self.WORDS[:9])),
        )

    def test_groups(self):
        """Views as directories make them."""
        dice = random.Random(7)
        people = ["p" + word_at(number + 1) for number in range(12)]
        links = [(one, dice.choice(("dev", "ops"))) for one in people] + [("dev", "staff"), ("ops", "staff")]
        parts = [
            ("member", WHO, "dev"), ("member", WHO, "staff"), ("under", "thing", (name("home"), WHO)),
            ("in", WHO, "banned"),
            ("at", "thing", (name("wiki"),)), ("most", "size", "", 100), ("most", "spent", "limit", 0),
            ("is", WHO, OWNER),
            ("not", ("in", ("field", "kind"), "secret")), ("within", "tags", ("names", ("blue", "red"))),
        ]
        rules = [
            (
                word_at(number + 1), dice.choice(("permit", "permit", "forbid")), dice.randrange(3),
                everything(*dice.sample(parts, 2)),
            )
            for number in range(25)
        ]
        directory = Directory(links)
        before = view_of(rules, directory)
        directory.leave(*links[0])
        after = view_of(rules, directory)
        self.checked(before, after)
        self.checked(after, before)
        self.all_kinds(before)

    def test_deep_conditions(self):
        condition = ("in", WHO, "s")
        for _ in range(7):
            condition = ("not", ("all", (YES, condition)))
        self.apart(NOTHING, permits(condition), permits(("in", WHO, "s")))
        self.none(permits(condition), permits(("not", ("in", WHO, "s"))))


if __name__ == "__main__":
    unittest.main()
