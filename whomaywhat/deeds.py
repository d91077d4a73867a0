"""Deeds: what they make of a state, which is the book, the links and the records of the grants."""

from whomaywhat.conditions import check_condition
from whomaywhat.directory import Directory
from whomaywhat.errors import NoRule
from whomaywhat.grants import Grants
from whomaywhat.rules import check_rule


def carried_out(state, deed):
    """The state after the deed, and the number of the grant that it makes, or None."""
    act = ACTS[deed[0]]
    return act(state, deed)


def book_of(rules):
    """The book of these rules: a tuple in alphabetical order of their names."""
    return tuple(sorted(rules, key=lambda rule: rule[0]))


def _set_rule(state, deed):
    book, links, records = state
    rule = deed[1]
    check_rule(rule)
    others = [other for other in book if other[0] != rule[0]]
    return (book_of([*others, rule]), links, records), None


def _drop_rule(state, deed):
    book, links, records = state
    others = [rule for rule in book if rule[0] != deed[1]]
    if len(others) == len(book):
        raise NoRule(f"no rule of the book is called {deed[1]!r}")
    return (tuple(others), links, records), None


def _join(state, deed):
    book, links, records = state
    directory = Directory(links)
    directory.join(deed[1], deed[2])
    return (book, directory.links(), records), None


def _leave(state, deed):
    book, links, records = state
    directory = Directory(links)
    directory.leave(deed[1], deed[2])
    return (book, directory.links(), records), None


def _give(state, deed):
    book, links, records = state
    _, receiver, condition, passes = deed
    check_condition(condition)
    grants = Grants(records)
    number = grants.give(receiver, condition, passes)
    return (book, links, grants.records()), number


def _pass_on(state, deed):
    book, links, records = state
    _, parent, receiver, condition = deed
    check_condition(condition)
    grants = Grants(records)
    number = grants.pass_on(parent, receiver, condition)
    return (book, links, grants.records()), number


def _revoke(state, deed):
    book, links, records = state
    grants = Grants(records)
    grants.revoke(deed[1])
    return (book, links, grants.records()), None


ACTS = {
    "set": _set_rule,
    "drop": _drop_rule,
    "join": _join,
    "leave": _leave,
    "give": _give,
    "pass": _pass_on,
    "revoke": _revoke,
}
