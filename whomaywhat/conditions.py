"""Conditions: which are valid, which are primitive, and when one holds."""

from whomaywhat.errors import InvalidCondition
from whomaywhat.requests import members_of, number_of, part_of
from whomaywhat.terms import BLANK, target_words, value_of
from whomaywhat.words import is_word

TRUE = ("true",)
FALSE = ("false",)

MOST_DEPTH = 12
MOST_INDEX = 40
MOST_TERMS = 40


def inner_conditions(condition):
    """The conditions that stand directly in a condition, a tuple."""
    if condition[0] == "not":
        return (condition[1],)
    if condition[0] in ("all", "any"):
        return condition[1]
    return ()


def check_condition(condition):
    """Returns None if the condition is valid; raises InvalidCondition otherwise."""
    _check_at_depth(condition, 1)


def _check_at_depth(condition, depth):
    if depth > MOST_DEPTH:
        raise InvalidCondition(f"a condition has a depth of at most {MOST_DEPTH}")
    _check_own_parts(condition)
    for inner in inner_conditions(condition):
        _check_at_depth(inner, depth + 1)


def _check_own_parts(condition):
    """Checks everything in the condition but the conditions in it."""
    kind = condition[0]
    if kind == "is":
        _check_term(condition[1])
        _check_term(condition[2])
    elif kind == "in":
        _check_term(condition[1])
        _check_word(condition[2])
    elif kind == "within":
        _check_word(condition[1])
        _check_target(condition[2])
    elif kind == "most":
        _check_word_or_blank(condition[1])
        _check_word_or_blank(condition[2])
    elif kind == "member":
        _check_member_term(condition[1])
        _check_word(condition[2])
    elif kind in ("under", "at"):
        _check_word(condition[1])
        _check_template(condition[2])


def _check_word(text):
    if not is_word(text):
        raise InvalidCondition(f"{text!r} is not a word")


def _check_word_or_blank(text):
    if text != "":
        _check_word(text)


def _check_term(term):
    if term[0] == "name":
        _check_word_or_blank(term[1])
    elif term[0] == "field":
        _check_word(term[1])
    elif term[0] == "part":
        _check_word(term[1])
        if term[2] < 0 or term[2] > MOST_INDEX:
            raise InvalidCondition(f"the index of a part is from 0 to {MOST_INDEX}")
    else:
        raise InvalidCondition("an other term stands in papers only")


def _check_member_term(term):
    if term[0] == "name":
        raise InvalidCondition("the term of member is not a name")
    _check_term(term)


def _check_target(target):
    if target[0] == "set":
        _check_word(target[1])
        return
    for word in target[1]:
        _check_word(word)
    if list(target[1]) != sorted(set(target[1])):
        raise InvalidCondition("listed names are in alphabetical order, each of them once")


def _check_template(terms):
    if len(terms) > MOST_TERMS:
        raise InvalidCondition(f"a template has at most {MOST_TERMS} terms")
    for term in terms:
        _check_term(term)
        if term == BLANK:
            raise InvalidCondition("the blank does not stand in a template")


def is_primitive(condition):
    """True if neither member nor under nor at stands in the condition."""
    if condition[0] in ("member", "under", "at"):
        return False
    return all(is_primitive(inner) for inner in inner_conditions(condition))


def holds(condition, request, directory=None):
    """True if the condition holds; without a directory the condition is primitive."""
    kind = condition[0]
    if kind == "not":
        return not holds(condition[1], request, directory)
    if kind == "all":
        return all(holds(inner, request, directory) for inner in condition[1])
    if kind == "any":
        return any(holds(inner, request, directory) for inner in condition[1])
    if kind == "member":
        word = value_of(condition[1], request)
        return word != "" and directory.belongs(word, condition[2])
    if kind == "under":
        return _begins_with(request, condition[1], condition[2])
    if kind == "at":
        end = part_of(request, condition[1], len(condition[2]))
        return end == "" and _begins_with(request, condition[1], condition[2])
    return _simple_holds(condition, request)


def _simple_holds(condition, request):
    kind = condition[0]
    if kind == "is":
        return value_of(condition[1], request) == value_of(condition[2], request)
    if kind == "in":
        # The blank is never a member, so it needs no test of its own.
        return value_of(condition[1], request) in members_of(request, condition[2])
    if kind == "within":
        allowed = target_words(condition[2], request)
        return all(member in allowed for member in members_of(request, condition[1]))
    if kind == "most":
        # The blank is no field of any request, so it counts as 0 like every missing field.
        return number_of(request, condition[1]) - number_of(request, condition[2]) <= condition[3]
    return kind == "true"


def _begins_with(request, field, terms):
    for index, term in enumerate(terms):
        word = value_of(term, request)
        if word == "" or word != part_of(request, field, index):
            return False
    return True
