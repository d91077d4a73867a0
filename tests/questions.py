"""Random small questions, and plain readings of what DOC.md says of papers, for the tests."""
from whomaywhat.atoms import is_atom
from whomaywhat.bounds import find_ring, is_ring
from whomaywhat.conditions import holds
from whomaywhat.guesses import guess, sure_verdict
from whomaywhat.ordering import question_cells
from whomaywhat.plainly import number_bound
from whomaywhat.rules import decide
from whomaywhat.sameness import find_steps, is_closed
from whomaywhat.views import mentioned_words, question_atoms
from whomaywhat.words import fresh_words

YES, NO, BLANK = ("true",), ("false",), ("name", "")
WHO, OWNER = ("field", "who"), ("field", "owner")


def name(word):
    return ("name", word)


def part(index, field="p"):
    return ("part", field, index)


def pool(terms=(), sets=(), words=(), numbers=(), most=0, kinds=()):
    return {"terms": terms, "sets": sets, "words": words, "numbers": numbers, "most": most, "kinds": kinds}


# What the conditions of a question are made of; each pool is so small that the boxes are small.
POOLS = (
    pool((WHO, OWNER, BLANK, name("b"), name("a")), "s", kinds=("is", "is", "in")),
    pool((WHO, part(0), part(1), BLANK, name("b"), name("a")), kinds=("is",)),
    pool((name("b"), name("z"), name("a")), "st", "abz", kinds=("in", "within")),
    pool((WHO, name("z"), name("a")), "st", "az", kinds=("in", "within")),
    pool(numbers=("", "x", "y"), most=2, kinds=("most",)),
    pool(numbers=("", "x"), most=9, kinds=("most",)),
    pool((WHO, name("z"), BLANK), "s", "z", ("", "x"), 1, ("is", "in", "within", "most")),
)
# With these more has to do with each other; the boxes are too large to walk through.
WIDE = pool(
    (WHO, OWNER, part(0), part(2), BLANK, name("a"), name("b"), name("c")), "stu", "abc", ("", "x", "y", "z"), 3,
    ("is", "is", "in", "within", "most"),
)


def simple_condition(dice, items):
    kind = dice.choice(items["kinds"])
    if kind == "is":
        return (kind, dice.choice(items["terms"]), dice.choice(items["terms"]))
    if kind == "in":
        return (kind, dice.choice(items["terms"]), dice.choice(items["sets"]))
    if kind == "within":
        names = tuple(word for word in items["words"] if dice.random() < 0.5)
        return (kind, dice.choice(items["sets"]), dice.choice((("set", dice.choice(items["sets"])), ("names", names))))
    return (
        kind, dice.choice(items["numbers"]), dice.choice(items["numbers"]),
        dice.randint(-items["most"], items["most"]),
    )


def primitive_condition(dice, items, depth):
    """A primitive condition of at most this depth."""
    if depth == 1 or dice.random() < 0.3:
        return dice.choice((YES, NO)) if dice.random() < 0.05 else simple_condition(dice, items)
    kind = dice.choice(("not", "all", "any"))
    if kind == "not":
        return (kind, primitive_condition(dice, items, depth - 1))
    return (kind, tuple(primitive_condition(dice, items, depth - 1) for _ in range(dice.randrange(4))))


def random_view(dice, items, most_rules, depth=3):
    names = sorted(dice.sample("abcdefghij", dice.randrange(most_rules + 1)))
    return tuple(
        (
            name, dice.choice(("permit", "permit", "forbid")), dice.randrange(-1, 2),
            primitive_condition(dice, items, depth),
        )
        for name in names
    )


def random_question(dice, items, most_rules=3):
    where = YES if dice.random() < 0.6 else primitive_condition(dice, items, 3)
    return random_view(dice, items, most_rules), random_view(dice, items, most_rules), where


def answers(left, right, where, request):
    """Whether the request answers the question, as point [42] says."""
    return holds(where, request) and decide(left, request)[0] == "permit" and decide(right, request)[0] == "refuse"


def stock_of(question):
    cells = question_cells(*question)
    withins = [atom for atom in question_atoms(*question) if atom[0] == "within"]
    mentioned = mentioned_words(*question)
    return ["", *mentioned, *fresh_words(mentioned, len([c for c in cells if c[0] in ("word", "part")]) + len(withins))]


def box_size(question):
    """The number of requests in the box, counted from the cells."""
    stock, bound = len(stock_of(question)), number_bound(*question)
    size, paths = 1, {}
    for cell in question_cells(*question):
        if cell[0] == "part":
            paths[cell[1]] = paths.get(cell[1], 0) + 1
        else:
            size *= {"word": stock, "set": 2 ** (stock - 1), "number": 2 * bound + 1}[cell[0]]
    for length in paths.values():
        size *= sum((stock - 1) ** parts for parts in range(length + 1))
    return size


def branches(paper, case=()):
    """Pairs of a line that is no split and the case that it closes."""
    cases, found = [case], []
    for line in paper:
        case = cases.pop()
        if line[0] == "split":
            cases += [case + ((line[1], False),), case + ((line[1], True),)]
        else:
            found.append((line, case))
    return found


def splits_twice(paper):
    """Whether some branch of the paper splits twice on the same atom."""
    return any(len({atom for atom, _ in case}) < len(case) for _, case in branches(paper))


def whole_paper(left, right, where):
    """A paper that splits on one atom of the question after the other, until a line closes.

    A case with all atoms that nothing closes is told in the place of a line: ("open", case).
    """
    return _lines_for((left, right, where), question_atoms(left, right, where), ())


def open_cases(lines):
    return [line[1] for line in lines if line[0] == "open"]


def _lines_for(question, atoms, case):
    closing = [line for line in closing_candidates(case) if line_is_right(question, case, line)]
    if closing:
        return (closing[0],)
    if len(case) == len(atoms):
        return (("open", case),)
    atom = atoms[len(case)]
    lines = (("split", atom),)
    for truth in (True, False):
        lines += _lines_for(question, atoms, (*case, (atom, truth)))
    return lines


def closing_candidates(case):
    ring = find_ring(tuple(literal for literal in case if literal[0][0] == "most"))
    return ("outside",), ("left",), ("right",), ("ring", ring), ("steps", find_steps(case))


def line_is_right(question, case, line):
    """Whether what point [43] tells of the line, which is no split, is true of the case."""
    left, right, where = question
    if line[0] == "outside":
        return guess(where, case) is False
    if line[0] == "left":
        return sure_verdict(left, case) == "refuse"
    if line[0] == "right":
        return sure_verdict(right, case) == "permit"
    if line[0] == "steps":
        return is_closed(case, line[1])
    return set(line[1]) <= set(case) and is_ring(line[1])


def is_taken(question, paper, case=()):
    """What the judge should say, told branch by branch."""
    return _rest_behind(question, tuple(paper), case) == ()


def _rest_behind(question, paper, case):
    """The lines behind those that close the case, or None if they do not close it."""
    if not paper:
        return None
    line, rest = paper[0], paper[1:]
    if line[0] != "split":
        return rest if line_is_right(question, case, line) else None
    if not is_atom(line[1]):
        return None
    rest = _rest_behind(question, rest, (*case, (line[1], True)))
    return None if rest is None else _rest_behind(question, rest, (*case, (line[1], False)))
