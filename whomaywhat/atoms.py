"""Atoms and literals: the one form of simple conditions, and what requests make of them."""

from whomaywhat.conditions import holds
from whomaywhat.terms import BLANK


def is_atom(atom):
    """True if this simple condition is an atom in its one form."""
    kind, one, other = atom[:3]
    if kind == "is":
        return one < other and not _are_names(one, other)
    if kind == "in":
        return one != BLANK
    if kind == "within":
        return other != ("set", one)
    return one < other


def _are_names(one, other):
    return one[0] == "name" and other[0] == "name"


def terms_of(condition):
    """The terms that stand in a simple condition, a tuple."""
    if condition[0] == "is":
        return condition[1:]
    if condition[0] == "in":
        return condition[1:2]
    return ()


def set_fields_of(condition):
    """The set fields that stand in a simple condition, also as a target, a tuple."""
    if condition[0] == "in":
        return condition[2:]
    if condition[0] == "within":
        field, target = condition[1:]
        return (field, target[1]) if target[0] == "set" else (field,)
    return ()


def number_fields_of(condition):
    """The number fields that stand in a simple condition, without the blank, a tuple."""
    if condition[0] == "most":
        return tuple([field for field in condition[1:3] if field != ""])
    return ()


def listed_words(condition):
    """The words of the "names" target that stands in a simple condition, a tuple."""
    if condition[0] == "within" and condition[2][0] == "names":
        return condition[2][1]
    return ()


def literal_of(condition):
    """True, False or the literal to which the simple condition reduces."""
    kind, one, other = condition[:3]
    if kind == "is":
        return _literal_of_is(one, other)
    if kind == "in" and one == BLANK:
        return False
    if kind == "within" and other == ("set", one):
        return True
    if kind == "most":
        return _literal_of_most(one, other, condition[3])
    return (condition, True)


def _literal_of_is(one, other):
    if one == other:
        return True
    if _are_names(one, other):
        return False
    return (("is", min(one, other), max(one, other)), True)


def _literal_of_most(one, other, most):
    if one == other:
        return most >= 0
    if one < other:
        return (("most", one, other, most), True)
    return (("most", other, one, -most - 1), False)


def makes_true(request, literal):
    """True if the request makes the literal true."""
    atom, truth = literal
    return holds(atom, request) == truth
