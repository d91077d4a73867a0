"""Terms and targets: for which words they stand in a request."""

from whomaywhat.requests import members_of, part_of, word_of
from whomaywhat.words import word_number

BLANK = ("name", "")


def value_of(term, request):
    """The word or blank for which the term stands."""
    kind = term[0]
    if kind == "name":
        return term[1]
    if kind == "field":
        return word_of(request, term[1])
    if kind == "part":
        return part_of(request, term[1], term[2])
    listed = target_words(term[2], request)
    others = [word for word in members_of(request, term[1]) if word not in listed]
    return min(others, key=word_number, default="")


def target_words(target, request):
    """The words of the target, a tuple in alphabetical order."""
    if target[0] == "set":
        return members_of(request, target[1])
    return target[1]
