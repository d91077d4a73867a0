import random
import unittest
from unittest import mock

from questions import BLANK, NO, OWNER, WHO, YES, name
from samples import condition as random_condition
from samples import nested, random_request
from whomaywhat.comparing import compare
from whomaywhat.conditions import check_condition
from whomaywhat.directory import Directory
from whomaywhat.errors import (
    AccessError, AlreadyLinked, Circle, InvalidCondition, InvalidRule, NoGrant, NoPasses, NoRule, NothingToRedo,
    NothingToUndo, NotLinked, Widening,
)
from whomaywhat.grants import Grants
from whomaywhat.house import House
from whomaywhat.requests import make_request
from whomaywhat.rules import applying, check_rule, decide
from whomaywhat.uses import newly_permitted
from whomaywhat.views import view_of

BIG = 10 ** 40
NOTHING = make_request()
ANN, BOB = ("is", WHO, name("ann")), ("is", WHO, name("bob"))
STAFF = ("member", WHO, "staff")
BAD = ("is", WHO, name("Ann"))
TOO_DEEP = nested(13)
PERMIT = ("a", "permit", 0, YES)


def who(word, **more):
    return make_request(words=[("who", word)], **more)


def rule(word, condition, effect="permit", rank=0):
    return (word, effect, rank, condition)


class Case(unittest.TestCase):
    def snapshot(self, house):
        return house.state(), house.rules(), house.view(), house.kept(), house.guarded

    def refused(self, error, house, deed):
        """The deed raises exactly this error and changes nothing."""
        before = self.snapshot(house)
        with self.assertRaises(error) as caught:
            house.do(deed)
        self.assertIs(type(caught.exception), error)
        self.assertEqual(self.snapshot(house), before)
        return caught.exception

    def run_through(self, house, *deeds):
        """Carries the deeds out; returns what they return."""
        return [house.do(deed) for deed in deeds]


class ConstructorTest(Case):
    def test_an_empty_house(self):
        house = House()
        self.assertEqual(house.state(), ((), (), ()))
        self.assertEqual((house.rules(), house.view(), house.kept()), ((), (), ()))
        self.assertIs(house.guarded, False)
        self.assertEqual(house.ask(NOTHING), ("refuse", ()))
        self.refused(NothingToUndo, house, ("undo",))
        self.refused(NothingToRedo, house, ("redo",))

    def test_rules_and_links(self):
        rules = [rule("zoe", STAFF), rule("a", YES, "forbid", -BIG), rule("aa", NO, "permit", BIG)]
        links = [("zoe", "dev"), ("ann", "dev"), ("dev", "staff")]
        for given_rules, given_links in ((rules, links), (tuple(rules[::-1]), tuple(links[::-1]))):
            house = House(given_rules, given_links)
            self.assertEqual(
                house.state(),
                ((rules[1], rules[2], rules[0]), (("ann", "dev"), ("dev", "staff"), ("zoe", "dev")), ()),
            )
            self.assertEqual(house.rules(), (rules[1], rules[2], rules[0]))
            self.assertEqual(house.view(), view_of(rules, Directory(links)))
        self.assertEqual(House(rules=rules, links=links, guarded=True).state(), House(rules, links).state())
        self.assertEqual(House(links=links).state(), ((), (("ann", "dev"), ("dev", "staff"), ("zoe", "dev")), ()))

    def test_guarded(self):
        self.assertIs(House([PERMIT], guarded=True).guarded, True)
        self.assertIs(House([PERMIT], guarded=False).guarded, False)
        with self.assertRaises(AttributeError):
            House().guarded = True

    def test_no_history(self):
        for guarded in (False, True):
            house = House([PERMIT], [("ann", "dev")], guarded=guarded)
            self.refused(NothingToUndo, house, ("undo",))
            self.refused(NothingToRedo, house, ("redo",))

    def test_errors_in_their_order(self):
        good, no_word, grant, no_effect = rule("a", YES), rule("", YES), rule("grantx", YES), rule("b", YES, "allow")
        bad, deep, worst = rule("c", BAD), rule("d", TOO_DEEP), rule("E", BAD)
        double, circle = [("ann", "dev"), ("ann", "dev")], [("ann", "dev"), ("dev", "ann")]
        for rules, links, error in (
            ([no_word], (), InvalidRule), ([grant], (), InvalidRule), ([no_effect], (), InvalidRule),
            ([bad], (), InvalidCondition), ([deep], (), InvalidCondition), ([worst], (), InvalidRule),
            ([good, bad, no_word], (), InvalidCondition), ([good, no_word, bad], (), InvalidRule),
            ((bad, worst), (), InvalidCondition), ([good], double, AlreadyLinked), ([good], circle, Circle),
            ((), [("ann", "ann")], Circle), ([bad], circle, InvalidCondition), ([good, grant], double, InvalidRule),
            ((), double + [("b", "b")], AlreadyLinked), ((), circle[:1] + [("b", "b")] + double, Circle),
        ):
            for guarded in (False, True):
                with self.assertRaises(AccessError) as caught:
                    House(rules, links, guarded=guarded)
                self.assertIs(type(caught.exception), error, (rules, links))


class DeedTest(Case):
    def test_set(self):
        house = House()
        self.assertIsNone(house.do(("set", rule("b", ANN))))
        self.assertIsNone(house.do(("set", rule("a", BOB, "forbid", 7))))
        self.assertEqual(house.state()[0], (rule("a", BOB, "forbid", 7), rule("b", ANN)))
        house.do(("set", rule("b", YES, "forbid", -1)))
        self.assertEqual(house.state()[0], (rule("a", BOB, "forbid", 7), rule("b", YES, "forbid", -1)))
        house.do(("set", rule("aa", STAFF)))
        self.assertEqual([one[0] for one in house.rules()], ["a", "aa", "b"])
        self.assertEqual(house.state()[1:], ((), ()))

    def test_set_errors(self):
        house = House([PERMIT], [("ann", "staff")])
        for wrong, error in (
            (rule("", YES), InvalidRule), (rule("A", YES), InvalidRule), (rule("grant", YES), InvalidRule),
            (rule("granta", YES), InvalidRule), (rule("a", YES, "deny"), InvalidRule),
            (rule("a", BAD), InvalidCondition),
            (rule("a", TOO_DEEP), InvalidCondition), (rule("1", BAD), InvalidRule), (rule("a", BAD, ""), InvalidRule),
        ):
            self.refused(error, house, ("set", wrong))
        house.do(("set", rule("gran", nested(12))))

    def test_drop(self):
        house = House([rule("b", ANN), rule("a", BOB)])
        self.refused(NoRule, house, ("drop", "c"))
        self.assertIsNone(house.do(("drop", "b")))
        self.assertEqual(house.state()[0], (rule("a", BOB),))
        self.refused(NoRule, house, ("drop", "b"))
        house.do(("drop", "a"))
        self.assertEqual(house.state(), ((), (), ()))
        self.refused(NoRule, House(), ("drop", "a"))

    def test_the_rules_of_grants_are_not_in_the_book(self):
        house = House()
        house.do(("give", "ann", YES, 1))
        self.assertEqual([one[0] for one in house.rules()], ["granta"])
        self.assertEqual(house.state()[0], ())
        self.refused(NoRule, house, ("drop", "granta"))

    def test_join_and_leave(self):
        house = House([rule("a", STAFF)])
        self.assertIsNone(house.do(("join", "ann", "dev")))
        self.assertIsNone(house.do(("join", "dev", "staff")))
        self.assertEqual(house.state()[1], (("ann", "dev"), ("dev", "staff")))
        self.assertEqual(house.ask(who("ann"))[0], "permit")
        self.assertEqual(house.view(), (rule("a", ("any", (ANN, ("is", WHO, name("dev"))))),))
        self.refused(AlreadyLinked, house, ("join", "ann", "dev"))
        self.refused(Circle, house, ("join", "staff", "ann"))
        self.refused(Circle, house, ("join", "bob", "bob"))
        self.refused(NotLinked, house, ("leave", "ann", "staff"))
        self.refused(NotLinked, house, ("leave", "dev", "ann"))
        self.assertIsNone(house.do(("leave", "ann", "dev")))
        self.assertEqual(house.state()[1], (("dev", "staff"),))
        self.assertEqual(house.ask(who("ann"))[0], "refuse")
        self.refused(NotLinked, house, ("leave", "ann", "dev"))
        house.do(("join", "staff", "ann"))
        self.refused(Circle, house, ("join", "ann", "dev"))

    def test_two_ways(self):
        house = House([rule("a", STAFF)], [("ann", "dev"), ("ann", "ops"), ("dev", "staff"), ("ops", "staff")])
        house.do(("leave", "ann", "dev"))
        self.assertEqual(house.ask(who("ann"))[0], "permit")
        house.do(("leave", "ops", "staff"))
        self.assertEqual(house.ask(who("ann"))[0], "refuse")

    def test_grants(self):
        house = House([rule("z", BOB, "forbid", 1)])
        self.assertEqual(house.do(("give", "ann", ("most", "size", "", 9), 2)), 1)
        self.assertEqual(house.do(("pass", 1, "bob", YES)), 2)
        self.assertEqual(house.do(("pass", 2, "cid", NO)), 3)
        self.assertEqual(house.do(("give", "ann", YES, 0)), 4)
        records = (
            (1, 0, "ann", ("most", "size", "", 9), 2, False), (2, 1, "bob", YES, 1, False), (3, 2, "cid", NO, 0, False),
            (4, 0, "ann", YES, 0, False),
        )
        self.assertEqual(house.state()[2], records)
        self.assertEqual(house.rules(), (*Grants(records).rules(), rule("z", BOB, "forbid", 1)))
        self.refused(NoPasses, house, ("pass", 3, "dan", YES))
        self.refused(NoGrant, house, ("pass", 5, "dan", YES))
        self.refused(NoGrant, house, ("revoke", 0))
        self.assertIsNone(house.do(("revoke", 2)))
        self.assertEqual([one[5] for one in house.state()[2]], [False, True, False, False])
        self.assertEqual([one[0] for one in house.rules()], ["granta", "grantd", "z"])
        self.refused(NoGrant, house, ("revoke", 2))
        self.refused(NoGrant, house, ("revoke", 3))
        self.refused(NoGrant, house, ("pass", 2, "dan", YES))
        self.assertEqual(house.do(("pass", 1, "dan", YES)), 5)

    def test_invalid_conditions_come_first(self):
        house = House()
        house.do(("give", "ann", YES, 0))
        for wrong in (BAD, TOO_DEEP, ("in", ("other", "s", ("set", "t")), "s")):
            self.refused(InvalidCondition, house, ("give", "ann", wrong, 1))
            self.refused(InvalidCondition, house, ("pass", 1, "bob", wrong))
            self.refused(InvalidCondition, house, ("pass", 7, "bob", wrong))
        self.refused(NoPasses, house, ("pass", 1, "bob", YES))
        self.refused(NoGrant, house, ("pass", 7, "bob", YES))
        self.assertEqual(house.do(("give", "ann", nested(12), 0)), 2)

    def test_rules_are_in_alphabetical_order(self):
        house = House([rule("h", ANN), rule("g", BOB), rule("gz", YES)])
        for _ in range(28):
            house.do(("give", "ann", YES, 0))
        names = [one[0] for one in house.rules()]
        self.assertEqual(names, sorted(names))
        self.assertEqual(names[:5], ["g", "granta", "grantaa", "grantab", "grantb"])
        self.assertEqual(names[-2:], ["gz", "h"])
        self.assertEqual([one[0] for one in house.view()], names)

    def test_decisions_use_all_rules(self):
        house = House([rule("b", STAFF, "forbid", 0), rule("c", BOB, "permit", 1)], [("cid", "staff")])
        house.do(("give", "cid", YES, 0))
        house.do(("give", "bob", YES, 0))
        house.do(("give", "dan", ("most", "size", "", 3), 0))
        self.assertEqual(house.ask(who("cid")), ("refuse", ("b",)))
        self.assertEqual(house.ask(who("bob")), ("permit", ("c",)))
        self.assertEqual(house.ask(who("dan")), ("permit", ("grantc",)))
        self.assertEqual(house.ask(who("dan", numbers=[("size", 4)])), ("refuse", ()))


class HistoryTest(Case):
    def test_undo_and_redo(self):
        house = House([PERMIT], [("ann", "dev")])
        deeds = (
            ("set", rule("b", ANN)), ("join", "bob", "dev"), ("drop", "a"), ("give", "ann", YES, 1),
            ("pass", 1, "bob", NO),
            ("leave", "ann", "dev"), ("revoke", 1), ("set", rule("b", BOB, "forbid", 3)),
        )
        states = [house.state()]
        for deed in deeds:
            house.do(deed)
            states.append(house.state())
        self.refused(NothingToRedo, house, ("redo",))
        for state in states[-2::-1]:
            self.assertIsNone(house.do(("undo",)))
            self.assertEqual(house.state(), state)
        self.refused(NothingToUndo, house, ("undo",))
        for state in states[1:]:
            self.assertIsNone(house.do(("redo",)))
            self.assertEqual(house.state(), state)
            self.assertEqual(house.view(), view_of(house.rules(), Directory(state[1])))
        self.refused(NothingToRedo, house, ("redo",))
        self.run_through(house, ("undo",), ("undo",), ("redo",), ("undo",))
        self.assertEqual(house.state(), states[-3])

    def test_a_new_deed_ends_redoing(self):
        house = House()
        self.run_through(house, ("set", rule("a", ANN)), ("set", rule("b", BOB)), ("undo",))
        house.do(("set", rule("c", YES)))
        self.refused(NothingToRedo, house, ("redo",))
        self.assertEqual([one[0] for one in house.rules()], ["a", "c"])
        self.run_through(house, ("undo",), ("undo",))
        self.assertEqual(house.rules(), ())
        self.refused(NothingToUndo, house, ("undo",))
        self.run_through(house, ("redo",), ("redo",))
        self.assertEqual([one[0] for one in house.rules()], ["a", "c"])

    def test_a_deed_that_fails_does_not_end_redoing(self):
        house = House()
        self.run_through(house, ("set", rule("a", ANN)), ("give", "ann", YES, 0), ("undo",))
        for deed, error in (
            (("drop", "b"), NoRule), (("set", rule("a", BAD)), InvalidCondition), (("leave", "a", "b"), NotLinked),
            (("join", "a", "a"), Circle), (("revoke", 1), NoGrant), (("pass", 1, "bob", YES), NoGrant),
        ):
            self.refused(error, house, deed)
        house.do(("redo",))
        self.assertEqual(len(house.state()[2]), 1)
        self.refused(NothingToRedo, house, ("redo",))

    def test_numbers_of_undone_grants_are_used_again(self):
        house = House()
        self.assertEqual(
            self.run_through(house, ("give", "ann", YES, 1), ("pass", 1, "bob", YES), ("undo",)), [1, 2, None],
        )
        self.assertEqual(house.do(("give", "cid", NO, 0)), 2)
        self.assertEqual(house.state()[2][1], (2, 0, "cid", NO, 0, False))
        self.run_through(house, ("undo",), ("undo",))
        self.assertEqual(house.do(("give", "dan", YES, 0)), 1)
        # Numbers of revoked grants are not.
        self.run_through(house, ("revoke", 1))
        self.assertEqual(house.do(("give", "dan", YES, 0)), 2)

    def test_redo_brings_the_same_numbers_back(self):
        house = House()
        self.run_through(
            house, ("give", "ann", YES, 1), ("pass", 1, "bob", YES), ("undo",), ("undo",), ("redo",), ("redo",),
        )
        self.assertEqual([one[:2] for one in house.state()[2]], [(1, 0), (2, 1)])
        self.assertEqual(house.do(("pass", 1, "cid", YES)), 3)

    def test_deeds_that_leave_everything_as_it_was(self):
        house = House([PERMIT])
        before = house.state()
        self.assertIsNone(house.do(("set", PERMIT)))
        self.assertEqual(house.state(), before)
        house.do(("undo",))
        self.assertEqual(house.state(), before)
        self.refused(NothingToUndo, house, ("undo",))
        house.do(("redo",))
        self.refused(NothingToRedo, house, ("redo",))
        # Such a deed also makes the undone ones impossible to redo.
        self.run_through(house, ("drop", "a"), ("undo",), ("set", PERMIT))
        self.refused(NothingToRedo, house, ("redo",))
        self.run_through(house, ("undo",), ("undo",))
        self.refused(NothingToUndo, house, ("undo",))


class Model:
    """A house told plainly, with all its states written down."""

    def __init__(self, rules=(), links=(), guarded=False):
        self.states = [({one[0]: one for one in rules}, Directory(links).links(), ())]
        self.at = 0
        self.guarded = guarded
        self.kept = {}

    def state(self, at=None):
        book, links, records = self.states[self.at if at is None else at]
        return tuple(sorted(book.values())), links, records

    def rules(self, state):
        return tuple(sorted(state[0] + Grants(state[2]).rules()))

    def do(self, deed):
        result = None
        states, at = self.states, self.at
        if deed[0] == "undo":
            if at == 0:
                raise NothingToUndo("")
            at -= 1
        elif deed[0] == "redo":
            if at + 1 == len(states):
                raise NothingToRedo("")
            at += 1
        else:
            new, result = self.after(deed)
            states, at = [*states[:at + 1], new], at + 1
        before = self.state()
        after = tuple(sorted(states[at][0].values())), *states[at][1:]
        if self.guarded:
            views = [view_of(self.rules(one), Directory(one[1])) for one in (after, before)]
            request = compare(*views)[1:2]
            if compare(*views)[0] == "apart":
                raise Widening(*request)
        self.states, self.at = states, at
        self.kept = {one: self.kept[one] for one in self.kept if not self.drops(one, before, after)}
        return result

    def after(self, deed):
        book, links, records = self.states[self.at]
        directory, grants = Directory(links), Grants(records)
        kind, *told = deed
        result = None
        if kind == "set":
            check_rule(*told)
            book = {**book, told[0][0]: told[0]}
        elif kind == "drop":
            if told[0] not in book:
                raise NoRule("")
            book = {word: one for word, one in book.items() if word != told[0]}
        elif kind in ("join", "leave"):
            getattr(directory, kind)(*told)
        elif kind == "revoke":
            grants.revoke(*told)
        else:
            check_condition(told[1] if kind == "give" else told[2])
            result = (grants.give if kind == "give" else grants.pass_on)(*told)
        return (book, directory.links(), grants.records()), result

    def drops(self, request, before, after):
        old, new = self.rules(before), self.rules(after)
        old_directory, new_directory = Directory(before[1]), Directory(after[1])
        gone = set(applying(old, request, old_directory)) & {one[0] for one in old if one not in new}
        come = set(applying(new, request, new_directory)) & {one[0] for one in new if one not in old}
        words = [word for _, word in request[0]] + [word for _, path in request[1] for word in path]
        return bool(gone or come) or any(old_directory.groups(word) != new_directory.groups(word) for word in words)

    def ask(self, request):
        decision = decide(self.rules(self.state()), request, Directory(self.state()[1]))
        assert self.kept.setdefault(request, decision) == decision
        return decision


WORDS = ("a", "b", "aa", "who", "is")
GROUPS = ("s", "t", "who", "in")


def random_deed(dice):
    kind = dice.choice(
        ("set", "set", "drop", "join", "join", "leave", "give", "pass", "revoke", "undo", "undo", "redo"),
    )
    condition = random_condition(dice, dice.randrange(1, 4)) if dice.random() < 0.9 else BAD
    if kind == "set":
        word, effect = dice.choice(("p", "q", "r", "grantx")), dice.choice(("permit", "permit", "forbid"))
        return (kind, (word, effect, dice.randrange(2), condition))
    if kind == "drop":
        return (kind, dice.choice("pqrs"))
    if kind in ("join", "leave"):
        return (kind, dice.choice(WORDS + GROUPS), dice.choice(GROUPS))
    if kind == "give":
        return (kind, dice.choice(WORDS), condition, dice.randrange(3))
    if kind == "pass":
        return (kind, dice.randrange(5), dice.choice(WORDS), condition)
    return (kind, dice.randrange(5)) if kind == "revoke" else (kind,)


class ManyDeedsTest(Case):
    def check(self, house, model):
        self.assertEqual(house.state(), model.state())
        self.assertEqual(house.rules(), model.rules(model.state()))
        self.assertEqual(house.view(), view_of(house.rules(), Directory(model.state()[1])))
        self.assertEqual(house.kept(), tuple(model.kept))

    def both(self, house, model, deed):
        """Carries the deed out in both; returns the name of the error, or the kind of the deed."""
        try:
            expected = model.do(deed)
        except AccessError as error:
            caught = self.refused(type(error), house, deed)
            if isinstance(error, Widening):
                self.assertEqual(caught.request, error.request)
            return type(error).__name__
        self.assertEqual(house.do(deed), expected)
        return deed[0]

    def go(self, dice, guarded, rounds, length):
        seen = {}
        for _ in range(rounds):
            rules = [("p", "permit", 0, random_condition(dice, 2)), ("q", "forbid", 1, random_condition(dice, 2))]
            links = [("a", "s"), ("s", "t"), ("b", "who")]
            house, model = House(rules, links, guarded=guarded), Model(rules, links, guarded)
            for _ in range(length):
                for _ in range(3):
                    request = random_request(dice)
                    self.assertEqual(house.ask(request), model.ask(request))
                kind = self.both(house, model, random_deed(dice))
                seen[kind] = seen.get(kind, 0) + 1
                self.check(house, model)
                for request in house.kept()[:3]:
                    self.assertEqual(house.ask(request), model.ask(request))
            while self.both(house, model, ("undo",)) == "undo":
                self.check(house, model)
            while self.both(house, model, ("redo",)) == "redo":
                self.check(house, model)
        return seen

    def test_a_house(self):
        seen = self.go(random.Random(55), False, 40, 40)
        self.assertEqual(len(seen), 19)
        self.assertGreater(min(seen.values()), 3)
        self.assertNotIn("Widening", seen)

    def test_a_guarded_house(self):
        seen = self.go(random.Random(56), True, 25, 30)
        self.assertGreater(seen["Widening"], 100)
        for kind in ("set", "drop", "join", "leave", "give", "revoke", "undo", "redo"):
            self.assertIn(kind, seen)


class GuardTest(Case):
    def widens(self, house, deed, request):
        caught = self.refused(Widening, house, deed)
        self.assertEqual(caught.request, request)

    def guarded(self, rules=(), links=()):
        return House(rules, links, guarded=True)

    def test_set_and_drop(self):
        house = self.guarded([rule("a", ANN), rule("b", YES, "forbid", -1), rule("c", BOB, "forbid", 5)])
        self.widens(house, ("set", rule("d", ("is", WHO, BLANK))), NOTHING)
        self.widens(house, ("set", rule("a", BOB, "permit", 7)), who("bob"))
        self.widens(house, ("set", rule("a", ("any", (ANN, BOB)), "permit", 5 + 1)), who("bob"))
        self.widens(house, ("set", rule("a", YES)), NOTHING)
        self.run_through(
            house, ("set", rule("d", ANN, "permit", 3)), ("drop", "b"), ("drop", "c"), ("drop", "a"),
            ("set", rule("e", ("all", (ANN, ("most", "size", "", 3))), "forbid", 3)),
        )
        self.widens(house, ("drop", "e"), who("ann"))
        self.widens(house, ("set", rule("e", ANN, "permit", 3)), who("ann"))
        house.do(("drop", "d"))
        self.run_through(house, ("drop", "e"))

    def test_the_earliest_request(self):
        house = self.guarded([rule("a", ("is", OWNER, name("zoe")))])
        # Words of either view are mentioned words.
        self.widens(house, ("set", rule("b", ("not", ("is", WHO, BLANK)))), who("zoe"))
        house = self.guarded()
        self.widens(house, ("set", rule("b", ("not", ("is", WHO, BLANK)))), who("a"))
        self.widens(house, ("set", rule("b", ("most", "", "size", -BIG))), make_request(numbers=[("size", BIG)]))

    def test_links(self):
        house = self.guarded([rule("a", STAFF), rule("b", ("member", WHO, "banned"), "forbid", 1)], [("ann", "staff")])
        self.widens(house, ("join", "bob", "staff"), who("bob"))
        house.do(("join", "ann", "banned"))
        self.widens(house, ("leave", "ann", "banned"), who("ann"))
        house.do(("join", "bob", "banned"))
        house.do(("join", "bob", "staff"))
        house.do(("leave", "ann", "staff"))
        house.do(("leave", "ann", "banned"))
        self.widens(house, ("join", "cid", "staff"), who("cid"))
        house.do(("join", "cid", "other"))

    def test_grants(self):
        house = self.guarded([rule("a", ("any", (ANN, BOB)))])
        self.assertEqual(house.do(("give", "ann", YES, 1)), 1)
        self.widens(house, ("give", "cid", YES, 0), who("cid"))
        self.widens(house, ("pass", 1, "cid", ("most", "", "size", -3)), who("cid", numbers=[("size", 3)]))
        self.assertEqual(house.do(("pass", 1, "bob", YES)), 2)
        self.assertEqual(house.do(("pass", 1, "cid", NO)), 3)
        house.do(("drop", "a"))
        house.do(("revoke", 2))
        self.widens(house, ("pass", 1, "bob", YES), who("bob"))

    def test_undo_and_redo(self):
        house = self.guarded([rule("a", ANN), rule("b", BOB)])
        house.do(("set", rule("c", ("is", WHO, name("cid")), "forbid", 0)))
        house.do(("undo",))
        house.do(("redo",))
        house.do(("drop", "a"))
        self.widens(house, ("undo",), who("ann"))
        self.widens(house, ("undo",), who("ann"))
        # What can be undone is only what was done last.
        house.do(("set", rule("a", ANN, "forbid", 0)))
        house.do(("undo",))
        self.widens(house, ("undo",), who("ann"))
        house.do(("redo",))
        self.assertEqual([one[0] for one in house.rules()], ["a", "b", "c"])

    def test_undo_and_redo_between_equal_views(self):
        house = self.guarded([rule("a", ANN), rule("b", YES, "forbid", 1)])
        # Everything is refused, so every deed that leaves it so is carried out.
        house.do(("drop", "a"))
        house.do(("undo",))
        house.do(("redo",))
        house.do(("undo",))
        self.assertEqual(house.state()[0], (rule("a", ANN), rule("b", YES, "forbid", 1)))
        self.widens(house, ("drop", "b"), who("ann"))
        house.do(("redo",))
        self.refused(NothingToRedo, house, ("redo",))
        house.do(("drop", "b"))

    def test_a_refused_undo_leaves_nothing_to_redo(self):
        house = self.guarded([rule("a", ANN)])
        self.run_through(house, ("set", rule("b", ANN)), ("drop", "a"), ("drop", "b"))
        self.widens(house, ("undo",), who("ann"))
        self.refused(NothingToRedo, house, ("redo",))

    def test_other_errors_come_first(self):
        house = self.guarded([rule("a", ANN)], [("ann", "dev")])
        house.do(("give", "ann", NO, 0))
        for deed, error in (
            (("set", rule("grantz", YES)), InvalidRule), (("set", rule("b", BAD)), InvalidCondition),
            (("drop", "b"), NoRule),
            (("join", "ann", "dev"), AlreadyLinked), (("join", "dev", "ann"), Circle),
            (("leave", "dev", "ann"), NotLinked),
            (("give", "bob", BAD, 0), InvalidCondition), (("pass", 1, "bob", BAD), InvalidCondition),
            (("pass", 1, "bob", YES), NoPasses), (("pass", 2, "bob", YES), NoGrant), (("revoke", 2), NoGrant),
            (("redo",), NothingToRedo),
        ):
            self.refused(error, house, deed)
        self.refused(NothingToUndo, self.guarded(), ("undo",))

    def test_a_house_that_is_not_guarded_never_refuses(self):
        house = House([rule("a", NO)], [("ann", "staff")])
        self.run_through(
            house, ("set", rule("b", YES)), ("drop", "a"), ("undo",), ("redo",), ("set", rule("c", YES, "forbid", 1)),
            ("drop", "c"), ("give", "ann", YES, 1), ("pass", 1, "bob", YES), ("undo",), ("redo",),
        )

    def test_only_what_was_permitted_at_the_start(self):
        dice = random.Random(57)
        for _ in range(30):
            rules = [("p", "permit", 0, random_condition(dice, 2)), ("q", "forbid", 1, random_condition(dice, 2))]
            house = self.guarded(rules, [("a", "s"), ("b", "t")])
            start = house.view()
            for _ in range(25):
                try:
                    house.do(random_deed(dice))
                except AccessError:
                    pass
            self.assertIsNone(newly_permitted(start, house.view()))


class KeptTest(Case):
    def setUp(self):
        self.house = House(
            [rule("a", STAFF), rule("b", BOB, "forbid", 2), rule("c", ("most", "size", "", 3))],
            [("ann", "dev"), ("dev", "staff")],
        )
        self.small, self.large = [who(word, numbers=[("size", size)]) for word, size in (("zoe", 1), ("zoe", 9))]
        self.ann, self.bob = who("ann", numbers=[("size", 9)]), who("bob", numbers=[("size", 9)])
        self.all = (self.large, self.bob, self.small, self.ann)

    def ask_all(self):
        for request in self.all:
            self.house.ask(request)
        self.assertEqual(self.house.kept(), self.all)

    def drops(self, deed, *dropped):
        """The deed drops exactly these of the four requests."""
        self.ask_all()
        self.house.do(deed)
        self.assertEqual(self.house.kept(), tuple(one for one in self.all if one not in dropped), deed)
        for request in self.all:
            decision = decide(self.house.rules(), request, Directory(self.house.state()[1]))
            self.assertEqual(self.house.ask(request), decision)
        # Begin again with the order of the requests as it was.
        self.house.do(("set", rule("x", YES)))
        self.house.do(("undo",))
        self.assertEqual(self.house.kept(), ())

    def test_asking(self):
        self.assertEqual(self.house.kept(), ())
        self.assertEqual(self.house.ask(self.ann), ("permit", ("a",)))
        self.assertEqual(self.house.ask(self.bob), ("refuse", ("b",)))
        self.assertEqual(self.house.kept(), (self.ann, self.bob))
        self.assertEqual(self.house.ask(self.ann), ("permit", ("a",)))
        self.assertEqual(self.house.kept(), (self.ann, self.bob))
        self.assertEqual(self.house.ask(self.small), ("permit", ("c",)))
        self.assertEqual(self.house.ask(NOTHING), ("permit", ("c",)))
        self.assertEqual(self.house.kept(), (self.ann, self.bob, self.small, NOTHING))
        self.assertIs(type(self.house.kept()), tuple)

    def test_a_kept_decision_is_given_without_looking_at_the_rules(self):
        with mock.patch("whomaywhat.house.decide", wraps=decide) as decided:
            for _ in range(3):
                self.house.ask(self.ann)
                self.house.ask(self.bob)
            self.assertEqual(decided.call_count, 2)
            self.house.do(("set", rule("d", BOB)))
            self.house.ask(self.ann)
            self.assertEqual(decided.call_count, 2)
            self.house.ask(self.bob)
            self.assertEqual(decided.call_count, 3)

    def test_rules_of_the_book(self):
        # A new rule, one that is gone, and one that is another one.
        self.drops(("set", rule("d", YES, "forbid", -9)), *self.all)
        self.house.do(("undo",))
        self.drops(("set", rule("d", NO)))
        self.drops(("set", rule("d", BOB, "permit", -1)), self.bob)
        self.drops(("drop", "b"), self.bob)
        self.drops(("drop", "c"), self.small)
        self.drops(("set", rule("c", ("most", "", "size", -5))), *self.all[:2], self.ann)
        self.drops(("set", rule("c", ("most", "size", "", 3))), *self.all)
        self.drops(("set", rule("c", ("most", "size", "", 3), "permit", 1)), self.small)
        self.drops(("set", rule("c", ("most", "size", "", 3), "permit", 1)))

    def test_a_rule_under_another_name(self):
        self.ask_all()
        self.house.do(("set", rule("cc", ("most", "size", "", 3))))
        self.assertEqual(self.house.kept(), (self.large, self.bob, self.ann))
        self.assertEqual(self.house.ask(self.small), ("permit", ("c", "cc")))

    def test_a_rule_that_applies_is_enough_even_if_the_decision_is_the_same(self):
        self.drops(("set", rule("d", BOB, "forbid", -5)), self.bob)
        self.drops(("drop", "d"), self.bob)

    def test_undo_and_redo(self):
        self.house.do(("set", rule("d", BOB, "forbid", 3)))
        self.house.do(("join", "zoe", "other"))
        self.drops(("undo",), self.large, self.small)
        # Two deeds of drops were done and undone since; the one before them is the next to undo.
        self.house = House([rule("a", STAFF), rule("c", ("most", "size", "", 3))], [("ann", "staff")])
        self.house.do(("set", rule("d", BOB)))
        self.ask_all()
        self.house.do(("undo",))
        self.assertEqual(self.house.kept(), (self.large, self.small, self.ann))
        self.house.ask(self.bob)
        self.house.do(("redo",))
        self.assertEqual(self.house.kept(), (self.large, self.small, self.ann))
        self.assertEqual(self.house.ask(self.bob), ("permit", ("d",)))

    def test_grants(self):
        self.drops(("give", "bob", YES, 1), self.bob)
        self.drops(("give", "zoe", ("most", "size", "", 5), 1), self.small)
        self.drops(("pass", 1, "ann", YES), self.ann)
        self.drops(("pass", 2, "ann", YES))
        self.drops(("revoke", 1), self.bob, self.ann)
        self.drops(("revoke", 2), self.small)

    def test_links(self):
        self.drops(("join", "bob", "dev"), self.bob)
        self.drops(("leave", "dev", "staff"), self.ann, self.bob)
        self.drops(("join", "dev", "other"), self.ann, self.bob)
        self.drops(("join", "cid", "staff"))
        self.drops(("join", "zoe", "nobody"), self.large, self.small)
        self.drops(("leave", "zoe", "nobody"), self.large, self.small)

    def test_another_way_to_the_same_groups(self):
        self.house.do(("join", "ann", "ops"))
        self.house.do(("join", "ops", "rest"))
        self.drops(("join", "ann", "staff"))
        self.drops(("leave", "ann", "staff"))
        self.drops(("join", "ops", "staff"))

    def test_words_parts_sets_and_fields(self):
        """Words and parts of paths count, in any field; members of sets and names of fields do not."""
        requests = {
            "word": make_request(words=[("owner", "eve")]), "first": make_request(paths=[("p", ["eve", "x"])]),
            "last": make_request(paths=[("p", ["x"]), ("q", ["x", "y", "eve"])]),
            "set": make_request(sets=[("s", ["eve"])]),
            "field": make_request(
                words=[("eve", "x")], paths=[("eve", ["x"])], sets=[("eve", ["x"])], numbers=[("eve", 3)],
            ),
            "none": NOTHING,
        }
        for links, deed in (
            ((), ("join", "eve", "other")), ([("eve", "other")], ("leave", "eve", "other")),
            ([("eve", "other")], ("join", "other", "more")), ([("eve", "g"), ("g", "h")], ("leave", "g", "h")),
        ):
            house = House([PERMIT], links)
            for request in requests.values():
                house.ask(request)
            house.do(deed)
            self.assertEqual(house.kept(), (requests["set"], requests["field"], requests["none"]))

    def test_the_group_itself_does_not_move(self):
        house = House([PERMIT])
        self.assertEqual(house.ask(who("dev")), ("permit", ("a",)))
        house.do(("join", "ann", "dev"))
        self.assertEqual(house.kept(), (who("dev"),))
        house.do(("join", "dev", "staff"))
        self.assertEqual(house.kept(), ())

    def test_rules_apply_with_their_own_directory(self):
        """What is gone applied before the deed; what is new applies after it."""
        house = House([PERMIT])
        request = who("ann")
        house.do(("set", rule("b", STAFF)))
        house.do(("join", "ann", "dev"))
        house.ask(request)
        house.do(("join", "dev", "staff"))
        self.assertEqual(house.kept(), ())
        self.assertEqual(house.ask(request), ("permit", ("a", "b")))

    def test_asking_again_after_a_drop(self):
        self.ask_all()
        self.house.do(("set", rule("d", BOB)))
        self.assertEqual(self.house.kept(), (self.large, self.small, self.ann))
        self.house.ask(self.bob)
        self.assertEqual(self.house.kept(), (self.large, self.small, self.ann, self.bob))
        self.house.ask(self.large)
        self.assertEqual(self.house.kept(), (self.large, self.small, self.ann, self.bob))

    def test_errors_keep_all_decisions(self):
        guarded = House(self.house.state()[0], self.house.state()[1], guarded=True)
        for house in (self.house, guarded):
            for request in self.all:
                house.ask(request)
            for deed in (
                ("drop", "z"), ("set", rule("a", BAD)), ("join", "ann", "dev"), ("join", "staff", "ann"),
                ("leave", "a", "b"),
                ("pass", 1, "bob", YES), ("revoke", 1), ("undo",), ("redo",), ("give", "ann", BAD, 0),
            ):
                with self.assertRaises(AccessError):
                    house.do(deed)
                self.assertEqual(house.kept(), self.all)
        for deed in (
            ("drop", "b"), ("set", rule("d", YES, "permit", 9)), ("give", "zoe", YES, 0), ("join", "zoe", "staff"),
        ):
            self.refused(Widening, guarded, deed)
            self.assertEqual(guarded.kept(), self.all)
        guarded.do(("drop", "c"))
        self.assertEqual(guarded.kept(), (self.large, self.bob, self.ann))


if __name__ == "__main__":
    unittest.main()
