"""Uses of comparing: narrowing, lean views, and the requests at which rules show or meet."""

from whomaywhat.conditions import TRUE
from whomaywhat.errors import NoRule
from whomaywhat.rules import decide
from whomaywhat.searching import earliest_answer


def newly_permitted(old, new):
    """The earliest request that the new view permits and the old one refuses, or None."""
    return earliest_answer(new, old, TRUE)


def same_view(one, two):
    """True if each of the views narrows the other."""
    return newly_permitted(one, two) is None and newly_permitted(two, one) is None


def least_permitted(view, where):
    """The earliest request that the view permits and for which the condition holds, or None."""
    return earliest_answer(view, (), where)


def shows_at(view, name):
    """The earliest request at which the rule of this name shows, or None."""
    rule = _rule_called(view, name)
    rest = _without(view, name)
    # Without a permitting rule nothing more is permitted, and without a forbidding one nothing less.
    return newly_permitted(rest, view) if rule[1] == "permit" else newly_permitted(view, rest)


def _rule_called(view, name):
    for rule in view:
        if rule[0] == name:
            return rule
    raise NoRule(f"no rule is called {name!r}")


def _without(view, name):
    return tuple([rule for rule in view if rule[0] != name])


def lean(view):
    """The view without the rules that are idle, left out one after the other."""
    shown = {}
    left = view
    idle = _first_idle(left, shown)
    while idle is not None:
        left = _without(left, idle)
        idle = _first_idle(left, shown)
    return left


def _first_idle(view, shown):
    """The name of the first idle rule, or None.

    For the names of rules that were not idle before, shown has a request at which they showed. It
    is worth a look whether they still do, before another one is searched for.
    """
    for rule in view:
        name = rule[0]
        if name not in shown or not _differ_at(view, _without(view, name), shown[name]):
            request = shows_at(view, name)
            if request is None:
                return name
            shown[name] = request
    return None


def _differ_at(one, other, request):
    return decide(one, request)[0] != decide(other, request)[0]


def meeting(view, one, two):
    """The earliest request to which both rules apply, or None."""
    conditions = (_rule_called(view, one)[3], _rule_called(view, two)[3])
    return earliest_answer(((one, "permit", 0, ("all", conditions)),), (), TRUE)
