"""Reaching: what a house would permit if its grants were passed on."""

from whomaywhat.conditions import TRUE, holds
from whomaywhat.directory import Directory
from whomaywhat.grants import Grants, grant_name
from whomaywhat.requests import word_of
from whomaywhat.rules import decide
from whomaywhat.searching import earliest_answer
from whomaywhat.views import view_of

ANYBODY = ("not", ("is", ("field", "who"), ("name", "")))


def reach_of(house):
    """The view of the house in which every grant that may be passed on is for everybody."""
    _, links, records = house.state()
    passable = [grant_name(number) for number in _passable(records)]
    rules = [_opened(rule) if rule[0] in passable else rule for rule in house.rules()]
    return view_of(rules, Directory(links))


def _passable(records):
    """The numbers of the standing grants that may be passed on, in ascending order."""
    standing = Grants(records).standing()
    return [record[0] for record in records if record[0] in standing and record[4] > 0]


def _opened(rule):
    """The rule of a grant with everybody in the place of its receiver."""
    name, effect, rank, (kind, conditions) = rule
    return (name, effect, rank, (kind, (ANYBODY, *conditions[1:])))


def way_in(house, request):
    """The deed that has the request permitted if no guard refuses it, or None if there is none."""
    _, links, records = house.state()
    directory = Directory(links)
    if decide(house.rules(), request, directory)[0] == "permit":
        return None
    if decide(reach_of(house), request)[0] == "refuse":
        return None
    for number in _passable(records):
        if _chain_holds(records, number, request, directory):
            return ("pass", number, word_of(request, "who"), TRUE)
    return None


def _chain_holds(records, number, request, directory):
    """True if the conditions of the whole chain of the grant hold for the request."""
    # The grant with the number n has the n-th record.
    conditions = [records[above - 1][3] for above in Grants(records).chain(number)]
    return all(holds(condition, request, directory) for condition in conditions)


def first_let_in(house):
    """The earliest request that the house refuses and its reach permits, or None."""
    return earliest_answer(reach_of(house), house.view(), TRUE)
