import random
import unittest

from whomaywhat.errors import NoGrant, NoPasses
from whomaywhat.grants import Grants
from whomaywhat.words import word_at

YES = ("true",)
BIG = 10 ** 40
SMALL = ("most", "size", "", 9)
SHARED = ("in", ("field", "who"), "team")
HOME = ("under", "thing", (("name", "home"),))
# Python does not write integers of more than 4300 digits, not even in the message of an error.
HUGE = 10 ** 5000
NO_NUMBERS = (0, -1, -2, BIG, -BIG, HUGE, -HUGE)


def who(receiver):
    return ("is", ("field", "who"), ("name", receiver))


def family():
    """1 - 2 - 3 - 4, 2 - 5, and 6 alone."""
    grants = Grants()
    grants.give("ann", SMALL, 5)
    grants.pass_on(1, "bob", SHARED)
    grants.pass_on(2, "cid", HOME)
    grants.pass_on(3, "dan", YES)
    grants.pass_on(2, "eve", YES)
    grants.give("fay", YES, 0)
    return grants


class GiveAndPassOnTest(unittest.TestCase):
    def test_no_grants(self):
        for grants in (Grants(), Grants(()), Grants([])):
            self.assertEqual(grants.records(), ())
            self.assertEqual(grants.standing(), ())
            self.assertEqual(grants.rules(), ())

    def test_numbers_and_records(self):
        grants = Grants()
        self.assertEqual(grants.give("ann", SMALL, 2), 1)
        one = (1, 0, "ann", SMALL, 2, False)
        self.assertEqual(grants.records(), (one,))
        self.assertEqual(grants.pass_on(1, "bob", SHARED), 2)
        two = (2, 1, "bob", SHARED, 1, False)
        self.assertEqual(grants.records(), (one, two))
        self.assertEqual(grants.give("ann", YES, 0), 3)
        three = (3, 0, "ann", YES, 0, False)
        self.assertEqual(grants.records(), (one, two, three))
        self.assertEqual(grants.pass_on(2, "cid", HOME), 4)
        self.assertEqual(grants.pass_on(1, "bob", HOME), 5)
        self.assertEqual(grants.pass_on(1, "ann", HOME), 6)
        four = (4, 2, "cid", HOME, 0, False)
        five, six = (5, 1, "bob", HOME, 1, False), (6, 1, "ann", HOME, 1, False)
        self.assertEqual(grants.records(), (one, two, three, four, five, six))

    def test_a_number_is_not_used_again(self):
        grants = Grants()
        for number in range(1, 6):
            self.assertEqual(grants.give("ann", YES, 0), number)
            grants.revoke(number)
        self.assertEqual(grants.give("ann", YES, 0), 6)

    def test_passes_of_any_size(self):
        grants = Grants()
        grants.give("ann", YES, BIG)
        grants.pass_on(1, "bob", YES)
        grants.pass_on(2, "cid", YES)
        self.assertEqual([record[4] for record in grants.records()], [BIG, BIG - 1, BIG - 2])
        self.assertEqual(grants.give("ann", YES, HUGE), 4)
        self.assertEqual(grants.pass_on(4, "bob", YES), 5)
        self.assertEqual(grants.records()[4], (5, 4, "bob", YES, HUGE - 1, False))

    def test_no_passes(self):
        grants = Grants()
        grants.give("ann", YES, 1)
        grants.give("ann", YES, 0)
        grants.pass_on(1, "bob", YES)
        before = grants.records()
        for number in (2, 3):
            with self.assertRaises(NoPasses):
                grants.pass_on(number, "cid", YES)
            self.assertEqual(grants.records(), before)
        self.assertEqual(grants.pass_on(1, "cid", YES), 4)

    def test_numbers_that_no_grant_has(self):
        for grants in (Grants(), family()):
            before = grants.records()
            for number in NO_NUMBERS + (len(before) + 1, -len(before)):
                for call in (
                    lambda: grants.pass_on(number, "ann", YES), lambda: grants.revoke(number),
                    lambda: grants.chain(number),
                ):
                    with self.assertRaises(NoGrant):
                        call()
                    self.assertEqual(grants.records(), before)

    def test_no_grant_comes_before_no_passes(self):
        grants = Grants()
        grants.give("ann", YES, 1)
        grants.pass_on(1, "bob", YES)
        grants.revoke(1)
        before = grants.records()
        for number in (1, 2):
            with self.assertRaises(NoGrant):
                grants.pass_on(number, "cid", YES)
        self.assertEqual(grants.records(), before)

    def test_two_objects(self):
        one, other = Grants(), Grants()
        one.give("ann", YES, 3)
        self.assertEqual(other.records(), ())
        self.assertEqual(other.give("bob", HOME, 0), 1)
        other.revoke(1)
        self.assertEqual(one.records(), ((1, 0, "ann", YES, 3, False),))
        self.assertEqual(one.standing(), (1,))

    def test_long_chains(self):
        grants = Grants()
        grants.give("ann", YES, 2000)
        for number in range(1, 2000):
            grants.pass_on(number, "ann", YES)
        self.assertEqual(grants.chain(2000), tuple(range(1, 2001)))
        self.assertEqual(grants.standing(), tuple(range(1, 2001)))
        grants.revoke(1)
        self.assertEqual(grants.standing(), ())


class RevokeTest(unittest.TestCase):
    def revoked(self, grants):
        return [record[0] for record in grants.records() if record[5] is True]

    def test_in_the_middle_at_the_beginning_and_at_the_end(self):
        for number, left in (
            (1, (6,)), (2, (1, 6)), (3, (1, 2, 5, 6)), (4, (1, 2, 3, 5, 6)), (5, (1, 2, 3, 4, 6)), (6, (1, 2, 3, 4, 5)),
        ):
            grants = family()
            before = grants.records()
            self.assertIsNone(grants.revoke(number))
            self.assertEqual(grants.standing(), left)
            self.assertEqual(self.revoked(grants), [number])
            self.assertEqual([record[:5] for record in grants.records()], [record[:5] for record in before])
            self.assertTrue(all(record[5] is False for record in grants.records() if record[0] != number))

    def test_all_stand_at_first(self):
        self.assertEqual(family().standing(), (1, 2, 3, 4, 5, 6))
        self.assertEqual(self.revoked(family()), [])

    def test_revoking_twice(self):
        grants = family()
        grants.revoke(3)
        before = grants.records()
        with self.assertRaises(NoGrant):
            grants.revoke(3)
        self.assertEqual(grants.records(), before)

    def test_below_a_revoked_grant(self):
        grants = family()
        grants.revoke(2)
        before = grants.records()
        for number in (2, 3, 4, 5):
            with self.assertRaises(NoGrant):
                grants.revoke(number)
            with self.assertRaises(NoGrant):
                grants.pass_on(number, "ann", YES)
            self.assertEqual(grants.records(), before)
        self.assertEqual(grants.pass_on(1, "ann", YES), 7)
        self.assertEqual(grants.standing(), (1, 6, 7))

    def test_revoking_above_a_revoked_grant(self):
        grants = family()
        grants.revoke(4)
        grants.revoke(2)
        self.assertEqual(self.revoked(grants), [2, 4])
        self.assertEqual(grants.standing(), (1, 6))

    def test_chain(self):
        grants = family()
        chains = {1: (1,), 2: (1, 2), 3: (1, 2, 3), 4: (1, 2, 3, 4), 5: (1, 2, 5), 6: (6,)}
        for number, chain in chains.items():
            self.assertEqual(grants.chain(number), chain)
        grants.revoke(2)
        for number, chain in chains.items():
            self.assertEqual(grants.chain(number), chain)


class RulesTest(unittest.TestCase):
    def test_rules_of_a_chain(self):
        self.assertEqual(family().rules(), (
            ("granta", "permit", 0, ("all", (who("ann"), SMALL))),
            ("grantb", "permit", 0, ("all", (who("bob"), SMALL, SHARED))),
            ("grantc", "permit", 0, ("all", (who("cid"), SMALL, SHARED, HOME))),
            ("grantd", "permit", 0, ("all", (who("dan"), SMALL, SHARED, HOME, YES))),
            ("grante", "permit", 0, ("all", (who("eve"), SMALL, SHARED, YES))),
            ("grantf", "permit", 0, ("all", (who("fay"), YES))),
        ))

    def test_only_standing_grants_have_rules(self):
        grants = family()
        grants.revoke(3)
        self.assertEqual([rule[0] for rule in grants.rules()], ["granta", "grantb", "grante", "grantf"])

    def test_names_past_26_grants(self):
        grants = Grants()
        for number in range(1, 60):
            grants.give("ann", ("most", "x", "", number), 0)
        grants.revoke(2)
        names = [rule[0] for rule in grants.rules()]
        self.assertEqual(names[:3], ["granta", "grantaa", "grantab"])
        self.assertEqual(names, sorted("grant" + word_at(number) for number in range(1, 60) if number != 2))
        bounds = {rule[0]: rule[3][1][1][3] for rule in grants.rules()}
        self.assertEqual((bounds["grantz"], bounds["grantaa"], bounds["grantbg"]), (26, 27, 59))
        self.assertIsInstance(grants.rules(), tuple)

    def test_a_rule_never_goes_beyond_the_chain(self):
        # The same condition twice stands there twice.
        grants = Grants()
        grants.give("ann", SMALL, 3)
        grants.pass_on(1, "ann", SMALL)
        self.assertEqual(grants.rules()[1][3], ("all", (who("ann"), SMALL, SMALL)))


class RecordsTest(unittest.TestCase):
    def test_made_from_records(self):
        old = family()
        old.revoke(3)
        records = old.records()
        new = Grants(records)
        self.assertEqual(new.records(), records)
        self.assertEqual(new.standing(), old.standing())
        self.assertEqual(new.rules(), old.rules())
        self.assertEqual(new.chain(4), (1, 2, 3, 4))
        self.assertEqual(new.give("gus", YES, 1), 7)
        self.assertEqual(new.pass_on(7, "hal", YES), 8)
        new.revoke(1)
        with self.assertRaises(NoGrant):
            new.revoke(4)
        with self.assertRaises(NoPasses):
            new.pass_on(6, "ann", YES)
        self.assertEqual(old.records(), records)
        self.assertEqual(old.standing(), (1, 2, 5, 6))

    def test_a_list_that_is_changed_later(self):
        records = list(family().records())
        grants = Grants(records)
        records.clear()
        self.assertEqual(len(grants.records()), 6)
        self.assertEqual(grants.give("ann", YES, 0), 7)
        self.assertEqual(records, [])

    def test_random_calls_against_a_plain_table(self):
        dice = random.Random(25)
        for _ in range(60):
            grants, table = Grants(), []

            def stands(number):
                return 0 < number <= len(table) and not table[number - 1][5] and (
                    table[number - 1][1] == 0 or stands(table[number - 1][1]))

            for _ in range(40):
                number = dice.randrange(-1, len(table) + 2)
                row = [len(table) + 1, 0, dice.choice(("ann", "bob")), dice.choice((YES, SMALL)), dice.randrange(4), False]
                action = dice.choice(("give", "pass", "pass", "pass", "revoke", "again"))
                if action == "give":
                    self.assertEqual(grants.give(*row[2:5]), row[0])
                    table.append(row)
                elif action == "pass" and stands(number) and table[number - 1][4] > 0:
                    self.assertEqual(grants.pass_on(number, row[2], row[3]), row[0])
                    table.append([row[0], number, row[2], row[3], table[number - 1][4] - 1, False])
                elif action == "pass":
                    with self.assertRaises(NoPasses if stands(number) else NoGrant):
                        grants.pass_on(number, row[2], row[3])
                elif action == "revoke" and stands(number):
                    grants.revoke(number)
                    table[number - 1][5] = True
                elif action == "revoke":
                    with self.assertRaises(NoGrant):
                        grants.revoke(number)
                else:
                    grants = Grants(grants.records())
                self.assertEqual(grants.records(), tuple(map(tuple, table)))
                self.assertEqual(grants.standing(), tuple(row[0] for row in table if stands(row[0])))


if __name__ == "__main__":
    unittest.main()
