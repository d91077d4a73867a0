"""Requests: making them, reading their values, and their order."""

from whomaywhat.errors import InvalidRequest
from whomaywhat.words import is_word, stock_place


def make_request(*, words=(), paths=(), sets=(), numbers=()):
    """The request with these values; each argument is a list or tuple of pairs in any order."""
    for pairs in (words, paths, sets, numbers):
        _check_fields(pairs)
    _check_words([word for field, word in words if word != ""])
    for pairs in (paths, sets):
        for field, several in pairs:
            _check_words(several)
    return (
        _section([(field, word) for field, word in words if word != ""]),
        _section([(field, tuple(parts)) for field, parts in paths if len(parts) > 0]),
        _section([(field, tuple(sorted(set(members)))) for field, members in sets if len(members) > 0]),
        _section([(field, number) for field, number in numbers if number != 0]),
    )


def _check_fields(pairs):
    seen = set()
    for field, _ in pairs:
        if not is_word(field):
            raise InvalidRequest(f"the field {field!r} is not a word")
        if field in seen:
            raise InvalidRequest(f"the field {field!r} occurs twice")
        seen.add(field)


def _check_words(words):
    for word in words:
        if not is_word(word):
            raise InvalidRequest(f"the value {word!r} is not a word")


def _section(pairs):
    return tuple(sorted(pairs, key=lambda pair: pair[0]))


def word_of(request, field):
    """The word of the field, or the blank."""
    return _value(request[0], field, "")


def part_of(request, field, index):
    """The part of the path of the field at the index, or the blank."""
    parts = _value(request[1], field, ())
    return parts[index] if index < len(parts) else ""


def members_of(request, field):
    """The members of the set of the field, a tuple in alphabetical order."""
    return _value(request[2], field, ())


def number_of(request, field):
    """The number of the field."""
    return _value(request[3], field, 0)


def _value(section, field, default):
    for name, value in section:
        if name == field:
            return value
    return default


def compare_requests(mentioned, one, other):
    """-1 if one is the earlier request, 1 if it is the later one, 0 if the two are equal."""
    for mine, theirs in _cell_keys(mentioned, one, other):
        if mine != theirs:
            return -1 if mine < theirs else 1
    return 0


def _cell_keys(mentioned, one, other):
    """Yields, cell by cell in their order, two keys that compare as the two values do."""
    for field in _all_fields(one[0], other[0]):
        yield stock_place(mentioned, word_of(one, field)), stock_place(mentioned, word_of(other, field))
    for field in _all_fields(one[1], other[1]):
        length = max(len(_value(one[1], field, ())), len(_value(other[1], field, ())))
        for index in range(length):
            mine = part_of(one, field, index)
            theirs = part_of(other, field, index)
            yield stock_place(mentioned, mine), stock_place(mentioned, theirs)
    for field in _all_fields(one[2], other[2]):
        yield set_key(mentioned, members_of(one, field)), set_key(mentioned, members_of(other, field))
    for field in _all_fields(one[3], other[3]):
        yield number_key(number_of(one, field)), number_key(number_of(other, field))


def _all_fields(section, other_section):
    return sorted({pair[0] for pair in section + other_section})


def set_key(mentioned, members):
    """A key by which sets, given by their members, compare as values of a cell do."""
    # From the last place on: the first difference of two such lists is at the word that decides.
    return sorted([stock_place(mentioned, member) for member in members], reverse=True)


def number_key(number):
    """A key by which numbers compare as values of a cell do."""
    return (abs(number), number < 0)
