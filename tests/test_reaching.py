import random
import unittest

from questions import BLANK, NO, OWNER, WHO, YES, name
from samples import condition as random_condition
from samples import random_request
from whomaywhat.comparing import compare
from whomaywhat.conditions import holds
from whomaywhat.directory import Directory
from whomaywhat.errors import Widening
from whomaywhat.grants import Grants
from whomaywhat.house import House
from whomaywhat.reaching import first_let_in, reach_of, way_in
from whomaywhat.requests import make_request, word_of
from whomaywhat.rules import decide
from whomaywhat.views import view_of
from whomaywhat.words import word_at

NOTHING = make_request()
SOMEBODY = ("not", ("is", WHO, BLANK))
ANN = ("is", WHO, name("ann"))
SMALL, TINY = ("most", "size", "", 9), ("most", "size", "", 3)
STAFF = ("member", WHO, "staff")


def who(word, **more):
    return make_request(words=[("who", word)], **more)


def sized(word, size):
    return who(word, numbers=[("size", size)])


def rule(word, condition, effect="permit", rank=0):
    return (word, effect, rank, condition)


def deeds(house, *told):
    for deed in told:
        house.do(deed)
    return house


class ReachOfTest(unittest.TestCase):
    def test_without_grants(self):
        self.assertEqual(reach_of(House()), ())
        house = House([rule("b", STAFF, "forbid", 7), rule("a", YES)], [("ann", "staff"), ("bob", "staff")])
        self.assertEqual(reach_of(house), house.view())

    def test_grants(self):
        house = deeds(
            House([rule("z", YES, "forbid", -3)]), ("give", "ann", SMALL, 2), ("give", "bob", YES, 0),
            ("pass", 1, "cid", TINY),
            ("pass", 3, "dan", YES),
        )
        self.assertEqual(reach_of(house), (
            ("granta", "permit", 0, ("all", (SOMEBODY, SMALL))),
            ("grantb", "permit", 0, ("all", (("is", WHO, name("bob")), YES))),
            ("grantc", "permit", 0, ("all", (SOMEBODY, SMALL, TINY))),
            ("grantd", "permit", 0, ("all", (("is", WHO, name("dan")), SMALL, TINY, YES))),
            rule("z", YES, "forbid", -3),
        ))

    def test_revoked_grants(self):
        house = deeds(
            House(), ("give", "ann", YES, 3), ("pass", 1, "bob", SMALL), ("pass", 2, "cid", TINY),
            ("give", "dan", NO, 1),
        )
        house.do(("revoke", 2))
        self.assertEqual([one[0] for one in reach_of(house)], ["granta", "grantd"])
        house.do(("revoke", 1))
        self.assertEqual(reach_of(house), (("grantd", "permit", 0, ("all", (SOMEBODY, NO))),))

    def test_the_conditions_are_compiled(self):
        house = deeds(
            House((), [("ann", "staff"), ("bob", "staff")]), ("give", "cid", STAFF, 1), ("give", "cid", STAFF, 0),
        )
        staff = ("any", (ANN, ("is", WHO, name("bob"))))
        self.assertEqual(reach_of(house), (
            ("granta", "permit", 0, ("all", (SOMEBODY, staff))),
            ("grantb", "permit", 0, ("all", (("is", WHO, name("cid")), staff))),
        ))

    def test_only_the_first_condition_is_replaced(self):
        house = deeds(
            House([rule("a", ("all", (ANN, YES)))]), ("give", "ann", ("all", (ANN, ANN)), 1), ("pass", 1, "ann", ANN),
        )
        self.assertEqual(reach_of(house), (
            rule("a", ("all", (ANN, YES))), ("granta", "permit", 0, ("all", (SOMEBODY, ("all", (ANN, ANN))))),
            ("grantb", "permit", 0, ("all", (ANN, ("all", (ANN, ANN)), ANN))),
        ))

    def test_grants_with_long_names(self):
        house = House()
        for number in range(30):
            house.do(("give", "ann", YES, number % 2))
        opened = [one[0] for one in reach_of(house) if one[3][1][0] == SOMEBODY]
        self.assertEqual(opened, sorted("grant" + word_at(number) for number in range(2, 31, 2)))


class WayInTest(unittest.TestCase):
    def way(self, expected, house, request):
        before = (house.state(), house.kept())
        self.assertEqual(way_in(house, request), expected)
        self.assertEqual((house.state(), house.kept()), before)
        if expected is not None:
            self.carry_out(house, expected, request)

    def carry_out(self, house, deed, request):
        """The deed has the request permitted, but in a guarded house it is refused."""
        self.assertEqual(house.ask(request)[0], "refuse")
        number = house.do(deed)
        self.assertEqual(house.ask(request)[0], "permit")
        house.do(("revoke", number))
        self.assertEqual(house.ask(request)[0], "refuse")
        house.do(("undo",))
        house.do(("undo",))

    def test_the_deed(self):
        house = deeds(House(), ("give", "ann", SMALL, 1))
        self.way(("pass", 1, "bob", YES), house, sized("bob", 9))
        self.way(("pass", 1, "a", YES), house, who("a"))
        self.way(
            ("pass", 1, "bob", ("true",)), house,
            make_request(words=[("owner", "cid"), ("who", "bob")], sets=[("s", ["x"])]),
        )

    def test_none(self):
        house = deeds(House([rule("z", ("is", WHO, name("eve")))]), ("give", "ann", SMALL, 1), ("give", "bob", YES, 0))
        # The house permits the request already.
        for request in (sized("ann", 9), sized("bob", 99), who("eve")):
            self.way(None, house, request)
        # The reach refuses it: nobody asks, the condition does not hold, or no rule applies.
        for request in (
            NOTHING, make_request(words=[("owner", "cid")]), sized("cid", 10), sized("ann", 10), sized("zoe", 11),
        ):
            self.way(None, house, request)
        house.do(("revoke", 1))
        self.way(None, house, sized("cid", 1))
        self.way(None, House(), who("ann"))

    def test_rules_that_forbid(self):
        house = deeds(House([rule("z", ("in", WHO, "banned"), "forbid", 0)]), ("give", "ann", YES, 1))
        self.way(None, house, who("bob", sets=[("banned", ["bob"])]))
        self.way(("pass", 1, "bob", YES), house, who("bob", sets=[("banned", ["cid"])]))
        house = deeds(House([rule("z", YES, "forbid", -1)]), ("give", "ann", YES, 1))
        self.way(("pass", 1, "bob", YES), house, who("bob"))

    def test_the_least_number(self):
        house = deeds(
            House(), ("give", "ann", TINY, 0), ("give", "ann", TINY, 1), ("give", "ann", SMALL, 2),
            ("give", "ann", SMALL, 1),
            ("give", "ann", YES, 1),
        )
        for size, number in ((3, 2), (4, 3), (9, 3), (10, 5), (10 ** 30, 5), (-5, 2)):
            self.way(("pass", number, "bob", YES), house, sized("bob", size))
        house.do(("revoke", 3))
        self.way(("pass", 4, "bob", YES), house, sized("bob", 4))
        self.way(("pass", 2, "bob", YES), house, sized("bob", 3))

    def test_more_than_nine_grants(self):
        house = House()
        for number in range(27):
            house.do(("give", "ann", TINY if number < 26 else SMALL, 1))
        self.way(("pass", 27, "bob", YES), house, sized("bob", 9))
        house.do(("give", "ann", SMALL, 1))
        self.way(("pass", 27, "bob", YES), house, sized("bob", 9))
        self.way(("pass", 1, "bob", YES), house, sized("bob", 3))

    def test_the_whole_chain_must_hold(self):
        red, blue = ("in", name("red"), "tags"), ("in", name("blue"), "tags")
        house = deeds(
            House(), ("give", "ann", red, 3), ("pass", 1, "bob", blue), ("pass", 2, "cid", SMALL),
            ("give", "dan", blue, 1),
        )

        def tagged(*tags):
            return make_request(words=[("who", "zoe")], sets=[("tags", tags)], numbers=[("size", 10)])

        self.way(("pass", 1, "zoe", YES), house, tagged("red"))
        self.way(("pass", 1, "zoe", YES), house, tagged("blue", "red"))
        self.way(("pass", 4, "zoe", YES), house, tagged("blue"))
        self.way(None, house, tagged())
        # The grants below the first hold in fewer cases; of the chain all conditions count.
        house = deeds(House(), ("give", "ann", red, 2), ("pass", 1, "bob", blue), ("give", "ann", blue, 1))
        house.do(("revoke", 2))
        self.way(("pass", 3, "zoe", YES), house, tagged("blue"))

    def test_groups(self):
        house = deeds(House((), [("bob", "dev"), ("dev", "staff")]), ("give", "ann", STAFF, 1))
        self.way(("pass", 1, "bob", YES), house, who("bob"))
        self.way(("pass", 1, "dev", YES), house, who("dev"))
        self.way(None, house, who("cid"))
        house.do(("leave", "dev", "staff"))
        self.way(None, house, who("bob"))

    def test_a_guarded_house(self):
        house = House([rule("a", ANN)], guarded=True)
        house.do(("give", "ann", SMALL, 1))
        request = sized("bob", 9)
        deed = way_in(house, request)
        self.assertEqual(deed, ("pass", 1, "bob", YES))
        before = house.state()
        with self.assertRaises(Widening) as caught:
            house.do(deed)
        self.assertEqual(caught.exception.request, who("bob"))
        self.assertEqual(house.state(), before)

    def test_kept_decisions_stay(self):
        house = deeds(House([rule("a", ANN)]), ("give", "ann", YES, 1))
        house.ask(who("ann"))
        for request in (who("ann"), who("bob"), NOTHING):
            way_in(house, request)
        reach_of(house)
        first_let_in(house)
        self.assertEqual(house.kept(), (who("ann"),))
        house.do(("undo",))
        house.do(("redo",))
        self.assertEqual(house.kept(), ())


class FirstLetInTest(unittest.TestCase):
    def test_none(self):
        self.assertIsNone(first_let_in(House()))
        self.assertIsNone(first_let_in(deeds(House(), ("give", "ann", YES, 0))))
        self.assertIsNone(first_let_in(deeds(House([rule("a", SOMEBODY)]), ("give", "ann", YES, 1))))
        self.assertIsNone(first_let_in(deeds(House([rule("a", YES, "forbid")]), ("give", "ann", YES, 1))))
        self.assertIsNone(first_let_in(deeds(House(), ("give", "ann", ("is", WHO, BLANK), 1))))

    def test_requests(self):
        house = deeds(House(), ("give", "ann", YES, 1))
        self.assertEqual(first_let_in(house), who("a"))
        house = deeds(House(), ("give", "ann", ("most", "", "size", -5), 1))
        self.assertEqual(first_let_in(house), sized("a", 5))
        house = deeds(House([rule("a", ("is", OWNER, name("zoe")), "forbid")]), ("give", "ann", YES, 1))
        self.assertEqual(first_let_in(house), who("zoe"))
        # The receivers of passable grants are mentioned in the view of the house.
        house = deeds(House([rule("a", ANN, "forbid")]), ("give", "bob", YES, 1))
        self.assertEqual(first_let_in(house), who("a"))
        house = deeds(House([rule("a", ANN)]), ("give", "bob", ("not", ("is", WHO, name("bob"))), 1))
        self.assertEqual(first_let_in(house), who("a"))
        house = deeds(House(), ("give", "ann", ("not", ANN), 1), ("give", "zoe", TINY, 0))
        self.assertEqual(first_let_in(house), sized("zoe", 4))

    def test_it_has_a_way_in(self):
        house = deeds(House(), ("give", "ann", SMALL, 0), ("give", "bob", ("most", "", "size", -7), 2))
        request = first_let_in(house)
        self.assertEqual(request, sized("ann", 10))
        self.assertEqual(way_in(house, request), ("pass", 2, "ann", YES))


def random_house(dice):
    rules = [
        (word, dice.choice(("permit", "forbid")), dice.choice((-1, 0, 1)), random_condition(dice, 2))
        for word in dice.sample("pqr", 2)
    ]
    house = House(rules, [("a", "s"), ("s", "t"), ("b", "who"), ("aa", "in")])
    for _ in range(dice.randrange(1, 4)):
        house.do(("give", dice.choice(("a", "b", "who", "zoe")), random_condition(dice, 2), dice.randrange(3)))
    for _ in range(3):
        passable = [
            record[0] for record in house.state()[2] if record[4] and record[0] in Grants(house.state()[2]).standing()
        ]
        if passable:
            house.do(("pass", dice.choice(passable), dice.choice(("a", "b", "who")), random_condition(dice, 2)))
    if dice.random() < 0.5:
        house.do(("revoke", dice.choice(Grants(house.state()[2]).standing())))
    return house


class RandomHouseTest(unittest.TestCase):
    def test_ways_in(self):
        dice = random.Random(60)
        seen = {"permit": 0, "refuse": 0, "way": 0}
        for _ in range(300):
            house = random_house(dice)
            book, links, records = house.state()
            directory, grants = Directory(links), Grants(records)
            reach = reach_of(house)
            for _ in range(8):
                request = random_request(dice)
                verdicts = decide(house.rules(), request, directory)[0], decide(reach, request)[0]
                deed = way_in(house, request)
                self.assertEqual(deed is not None, verdicts == ("refuse", "permit"))
                seen["way" if deed else verdicts[0]] += 1
                # What the house permits, its reach permits.
                self.assertNotEqual(verdicts, ("permit", "refuse"))
                if deed:
                    self.check_way(house, deed, request, grants, directory)
        self.assertGreater(min(seen.values()), 60)

    def check_way(self, house, deed, request, grants, directory):
        records = {record[0]: record for record in grants.records()}
        numbers = [
            number for number in grants.standing() if records[number][4] >= 1
            and all(holds(records[above][3], request, directory) for above in grants.chain(number))
        ]
        self.assertEqual(deed, ("pass", numbers[0], word_of(request, "who"), YES))
        house.do(deed)
        self.assertEqual(house.ask(request)[0], "permit")
        house.do(("undo",))
        self.assertEqual(house.ask(request)[0], "refuse")

    def test_whatever_is_passed_on(self):
        dice = random.Random(61)
        for _ in range(120):
            house = random_house(dice)
            reach = reach_of(house)
            for _ in range(5):
                records = house.state()[2]
                passable = [one for one in Grants(records).standing() if records[one - 1][4]]
                if passable:
                    receiver = dice.choice(("a", "b", "aa", "who", "zoe"))
                    house.do(("pass", dice.choice(passable), receiver, random_condition(dice, 2)))
            self.assertEqual(compare(house.view(), reach)[0], "none")

    def test_first_let_in(self):
        dice = random.Random(62)
        seen = {True: 0, False: 0}
        for _ in range(200):
            house = random_house(dice)
            state = house.state()
            request = first_let_in(house)
            result = compare(reach_of(house), house.view())
            self.assertEqual(request, result[1] if result[0] == "apart" else None)
            if request is not None:
                self.assertIsNotNone(way_in(house, request))
            self.assertEqual((house.state(), house.kept()), (state, ()))
            seen[request is None] += 1
        self.assertGreater(min(seen.values()), 30)

    def test_the_view_of_the_reach(self):
        """The reach is a view: compiled for the directory, with the names in alphabetical order."""
        dice = random.Random(63)
        for _ in range(60):
            house = random_house(dice)
            reach = reach_of(house)
            self.assertEqual([one[:3] for one in reach], [one[:3] for one in house.view()])
            self.assertEqual(view_of(reach, Directory()), reach)


if __name__ == "__main__":
    unittest.main()
