"""The box of a question: finitely many requests, the earliest answer among them."""

from whomaywhat.conditions import holds
from whomaywhat.ordering import question_cells
from whomaywhat.rules import decide
from whomaywhat.views import mentioned_words, question_atoms
from whomaywhat.words import fresh_words


def number_bound(left, right, where):
    """The bound of the numbers in the box of the question."""
    cells = question_cells(left, right, where)
    limits = [abs(atom[3]) + 1 for atom in question_atoms(left, right, where) if atom[0] == "most"]
    return len([cell for cell in cells if cell[0] == "number"]) * sum(limits)


def box(left, right, where):
    """Yields the requests of the box of the question, the earliest first."""
    cells = question_cells(left, right, where)
    stock = _stock_of(left, right, where, cells)
    bound = number_bound(left, right, where)
    # For each cell the place of its value in the order of the values of such a cell.
    places = [0 for _ in cells]
    at = 0
    while at is not None:
        yield _request_at(cells, places, stock)
        at = _last_that_grows(cells, places, stock, bound)
        if at is not None:
            places = [*places[:at], places[at] + 1, *[0 for _ in cells[at + 1:]]]


def _stock_of(left, right, where, cells):
    mentioned = mentioned_words(left, right, where)
    withins = [atom for atom in question_atoms(left, right, where) if atom[0] == "within"]
    terms = [cell for cell in cells if cell[0] in ("word", "part")]
    return ("", *mentioned, *fresh_words(mentioned, len(terms) + len(withins)))


def _last_that_grows(cells, places, stock, bound):
    """The index of the last cell whose value is not the last of the box, or None."""
    for at in reversed(range(len(cells))):
        if places[at] + 1 < _count_of_values(cells, places, at, stock, bound):
            return at
    return None


def _count_of_values(cells, places, at, stock, bound):
    """How many values the cell at this index may have, with the cells before it as they are."""
    kind = cells[at][0]
    if kind == "set":
        return 1 << (len(stock) - 1)
    if kind == "number":
        return 2 * bound + 1
    if kind == "part" and cells[at][2] > 0 and places[at - 1] == 0:
        # Behind a blank part the path has ended.
        return 1
    return len(stock)


def _request_at(cells, places, stock):
    words, paths, sets, numbers = [], {}, [], []
    for cell, place in zip(cells, places):
        if place > 0 and cell[0] == "word":
            words.append((cell[1], stock[place]))
        elif place > 0 and cell[0] == "part":
            paths[cell[1]] = (*paths.get(cell[1], ()), stock[place])
        elif place > 0 and cell[0] == "set":
            sets.append((cell[1], _set_at(place, stock)))
        elif place > 0:
            numbers.append((cell[1], _number_at(place)))
    return (tuple(words), tuple(list(paths.items())), tuple(sets), tuple(numbers))


def _set_at(place, stock):
    # The last word that makes a difference decides, as the greatest binary digit of a number does.
    return tuple(sorted([word for digit, word in enumerate(stock[1:]) if (place >> digit) & 1 == 1]))


def _number_at(place):
    size = (place + 1) // 2
    return size if (place & 1) == 1 else -size


def first_answer(left, right, where):
    """The first request of the box that answers the question, or None."""
    for request in box(left, right, where):
        if _answers(left, right, where, request):
            return request
    return None


def _answers(left, right, where, request):
    if not holds(where, request):
        return False
    return decide(left, request)[0] == "permit" and decide(right, request)[0] == "refuse"
