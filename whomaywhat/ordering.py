"""The cells of a question, and the condition that a request comes before a given one."""

from whomaywhat.atoms import number_fields_of, set_fields_of, terms_of
from whomaywhat.conditions import FALSE
from whomaywhat.requests import members_of, number_key, number_of, part_of, set_key, word_of
from whomaywhat.views import mentioned_words, simple_conditions
from whomaywhat.words import fresh_words, stock_place, word_number


def question_cells(left, right, where):
    """The cells of the question, a tuple in their order."""
    conditions = simple_conditions(left, right, where)
    terms = {term: True for condition in conditions for term in terms_of(condition)}
    ends = {}
    for term in terms:
        if term[0] == "part":
            ends[term[1]] = max(term[2], ends.get(term[1], 0))
    sets = {field: True for condition in conditions for field in set_fields_of(condition)}
    numbers = {field: True for condition in conditions for field in number_fields_of(condition)}
    return (
        *[("word", term[1]) for term in sorted(terms) if term[0] == "field"],
        *[("part", field, index) for field in sorted(ends) for index in range(ends[field] + 1)],
        *[("set", field) for field in sorted(sets)],
        *[("number", field) for field in sorted(numbers)],
    )


def place_of(mentioned, cells, request):
    """A key by which requests compare that differ in these cells only."""
    return [_cell_key(mentioned, cell, request) for cell in cells]


def _cell_key(mentioned, cell, request):
    if cell[0] == "set":
        return set_key(mentioned, members_of(request, cell[1]))
    if cell[0] == "number":
        return number_key(number_of(request, cell[1]))
    return stock_place(mentioned, _word_in(cell, request))


def _word_in(cell, request):
    if cell[0] == "word":
        return word_of(request, cell[1])
    return part_of(request, cell[1], cell[2])


def earlier_than(left, right, where, request):
    """A condition that holds for the requests that the question's cells make earlier than this one."""
    mentioned = mentioned_words(left, right, where)
    pairs = []
    for cell in question_cells(left, right, where):
        # Where the path has ended already, the requests that are equal so far have ended as well.
        if cell[0] != "part" or cell[2] == 0 or part_of(request, cell[1], cell[2] - 1) != "":
            pairs.append(_conditions_of_cell(mentioned, cell, request))
    return _earlier_at(pairs)


def _earlier_at(pairs):
    """The condition of several cells, each given by its conditions "earlier" and "equal".

    The cells are halved again and again, for a chain of them could be deeper than is good.
    """
    if len(pairs) == 0:
        return FALSE
    if len(pairs) == 1:
        return pairs[0][0]
    middle = len(pairs) // 2
    first, second = _earlier_at(pairs[:middle]), _earlier_at(pairs[middle:])
    if second == FALSE:
        return first
    later = ("all", (*[equal for _, equal in pairs[:middle]], second))
    return later if first == FALSE else ("any", (first, later))


def _conditions_of_cell(mentioned, cell, request):
    """The two conditions that the value of the cell is earlier than the request's, and equal to it."""
    if cell[0] == "set":
        return _conditions_of_set(mentioned, cell[1], members_of(request, cell[1]))
    if cell[0] == "number":
        return _conditions_of_number(cell[1], number_of(request, cell[1]))
    word = _word_in(cell, request)
    term = ("field", cell[1]) if cell[0] == "word" else cell
    before = [] if word == "" else ["", *_words_before(mentioned, word)]
    return (_any_of([("is", term, ("name", other)) for other in before]), ("is", term, ("name", word)))


def _any_of(conditions):
    return ("any", tuple(conditions)) if conditions else FALSE


def _words_before(mentioned, word):
    """The words before this one in the stock order, without the blank."""
    if word in mentioned:
        return list(mentioned[:mentioned.index(word)])
    number = word_number(word)
    fresh = fresh_words(mentioned, number)
    return [*mentioned, *[other for other in fresh if word_number(other) < number]]


def _conditions_of_set(mentioned, field, members):
    """The conditions of a set: it is earlier if it lacks a member and has no other word behind it."""
    earlier = []
    behind = []
    for member in sorted(members, key=lambda one: stock_place(mentioned, one), reverse=True):
        earlier.append(_within(field, [*behind, *_words_before(mentioned, member)]))
        behind.append(member)
    known = [("in", ("name", member), field) for member in members]
    return (_any_of(earlier), ("all", (*known, _within(field, members))))


def _within(field, words):
    return ("within", field, ("names", tuple(sorted(words))))


def _conditions_of_number(field, number):
    size = abs(number)
    equal = ("all", (("most", field, "", number), ("most", "", field, -number)))
    if number == 0:
        return (FALSE, equal)
    # Of two numbers of the same size the positive one is earlier.
    greatest = size - 1 if number > 0 else size
    return (("all", (("most", field, "", greatest), ("most", "", field, size - 1))), equal)
