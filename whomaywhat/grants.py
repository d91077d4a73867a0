"""Grants: given by the house, passed on by their receivers, and revoked."""

from whomaywhat.errors import NoGrant, NoPasses
from whomaywhat.rules import GRANT
from whomaywhat.words import word_at


def grant_name(number):
    """The name of the rule of the grant with this number."""
    return GRANT + word_at(number)


class Grants:
    """Grants with the numbers 1, 2, 3 and so on, in the order in which they were made."""

    def __init__(self, records=()):
        self._made = list(records)

    def give(self, receiver, condition, passes):
        """Makes a grant of the house and returns its number."""
        return self._make(0, receiver, condition, passes)

    def pass_on(self, number, receiver, condition):
        """Makes a grant below the grant of this number and returns its own number."""
        passes = self._standing_record(number)[4]
        if passes == 0:
            raise NoPasses("the grant may not be passed on")
        return self._make(number, receiver, condition, passes - 1)

    def _make(self, parent, receiver, condition, passes):
        number = len(self._made) + 1
        self._made.append((number, parent, receiver, condition, passes, False))
        return number

    def revoke(self, number):
        """Revokes the grant of this number; the grants below it keep their records."""
        record = self._standing_record(number)
        self._made[number - 1] = (*record[:5], True)

    def _grant_of(self, number):
        if number < 1 or number > len(self._made):
            raise NoGrant("no grant has this number")
        return self._made[number - 1]

    def _standing_record(self, number):
        record = self._grant_of(number)
        if not self._stands(number):
            raise NoGrant("the grant of this number does not stand")
        return record

    def _stands(self, number):
        return not any(self._grant_of(above)[5] for above in self.chain(number))

    def standing(self):
        """The numbers of the standing grants, a tuple in ascending order."""
        # A parent comes before the grants below it, so one pass over the records is enough.
        stands = {0: True}
        for record in self._made:
            number, parent, revoked = record[0], record[1], record[5]
            stands[number] = stands[parent] and not revoked
        return tuple([number for number in stands if number > 0 and stands[number]])

    def chain(self, number):
        """The numbers of the grants above the grant and its own, from the grant of the house on."""
        found = [number]
        parent = self._grant_of(number)[1]
        while parent != 0:
            found.append(parent)
            parent = self._grant_of(parent)[1]
        return tuple(found[::-1])

    def rules(self):
        """The rules of the standing grants, a tuple in alphabetical order of their names."""
        return tuple(sorted([self._rule(number) for number in self.standing()], key=lambda rule: rule[0]))

    def _rule(self, number):
        receiver = self._grant_of(number)[2]
        conditions = [("is", ("field", "who"), ("name", receiver))]
        for above in self.chain(number):
            conditions.append(self._grant_of(above)[3])
        return (grant_name(number), "permit", 0, ("all", tuple(conditions)))

    def records(self):
        """All records, a tuple in ascending order of the numbers."""
        return tuple(self._made)
