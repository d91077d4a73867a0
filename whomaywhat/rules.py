"""Rules: which are valid, which apply to a request, and how a set of rules decides."""

from whomaywhat.conditions import check_condition, holds
from whomaywhat.errors import InvalidRule
from whomaywhat.words import is_word

# The names that begin in this way are kept for the rules of grants.
GRANT = "grant"


def check_rule(rule):
    """Returns None if the rule is valid; raises InvalidRule or InvalidCondition otherwise."""
    name, effect, _, condition = rule
    if not is_word(name) or name.startswith(GRANT):
        raise InvalidRule(f"{name!r} is no name for a rule")
    if effect not in ("permit", "forbid"):
        raise InvalidRule(f"{effect!r} is no effect of a rule")
    check_condition(condition)


def applying(rules, request, directory=None):
    """The names of the rules that apply to the request, a tuple in alphabetical order."""
    return _names_of(rules_that_apply(rules, request, directory))


def decide(rules, request, directory=None):
    """The decision on the request: a pair of the verdict and the names of the rules that count."""
    return decision_by(rules_that_apply(rules, request, directory))


def decision_by(rules):
    """The decision if all these rules apply and no others."""
    top = max([rule[2] for rule in rules], default=0)
    highest = [rule for rule in rules if rule[2] == top]
    forbidding = [rule for rule in highest if rule[1] == "forbid"]
    if highest and not forbidding:
        return ("permit", _names_of(highest))
    return ("refuse", _names_of(forbidding))


def rules_that_apply(rules, request, directory):
    """The list of the rules that apply to the request."""
    return [rule for rule in rules if holds(rule[3], request, directory)]


def _names_of(rules):
    return tuple(sorted([rule[0] for rule in rules]))
