"""Random valid conditions and requests for the tests."""
from whomaywhat.atoms import is_atom
from whomaywhat.requests import make_request

WORDS = ("a", "b", "aa", "who", "is", "not", "permit", "zoe", "x" * 30)
FIELDS = ("who", "in", "thing", "s", "t")
INTEGERS = (0, 1, -1, 7, 10, -300, 10 ** 59, 10 ** 60 - 1, -(10 ** 60 - 1))


def some_names(dice):
    return tuple(sorted({dice.choice(WORDS) for _ in range(dice.randrange(4))}))


def variable(dice):
    if dice.random() < 0.5:
        return ("field", dice.choice(FIELDS))
    return ("part", dice.choice(FIELDS), dice.choice((0, 1, 2, 9, 10, 40)))


def term(dice):
    if dice.random() < 0.4:
        return ("name", dice.choice(WORDS + ("",)))
    return variable(dice)


def template(dice):
    size = dice.choice((0, 1, 2, 3, 40)) if dice.random() < 0.2 else dice.randrange(3)
    terms = [term(dice) for _ in range(size)]
    return tuple(("name", "b") if one == ("name", "") else one for one in terms)


def target(dice):
    return ("set", dice.choice(FIELDS)) if dice.random() < 0.5 else ("names", some_names(dice))


def condition(dice, depth, kinds=None):
    """A valid condition of at most this depth."""
    simple = ("true", "false", "is", "in", "within", "most", "member", "under", "at")
    kind = dice.choice(kinds or (simple if depth == 1 else simple + ("not", "all", "any") * 4))
    if kind in ("true", "false"):
        return (kind,)
    if kind == "is":
        return (kind, term(dice), term(dice))
    if kind == "in":
        return (kind, term(dice), dice.choice(FIELDS))
    if kind == "within":
        return (kind, dice.choice(FIELDS), target(dice))
    if kind == "most":
        return (kind, dice.choice(FIELDS + ("",)), dice.choice(FIELDS + ("",)), dice.choice(INTEGERS))
    if kind == "member":
        return (kind, variable(dice), dice.choice(FIELDS))
    if kind in ("under", "at"):
        return (kind, dice.choice(FIELDS), template(dice))
    if kind == "not":
        return (kind, condition(dice, depth - 1))
    return (kind, tuple(condition(dice, depth - 1) for _ in range(dice.randrange(4))))


def nested(depth, deepest=("true",), kinds=("not",)):
    """A condition of this depth; its outer conditions are of these kinds, by turns."""
    result = deepest
    for level in range(depth - 1):
        kind = kinds[level % len(kinds)]
        result = (kind, result) if kind == "not" else (kind, (("true",), result, ("false",)))
    return result


def random_request(dice):
    """A request whose values the random conditions often speak of."""
    words = ["a", "b", "aa", "who", "is"]
    return make_request(
        words=[(field, dice.choice(words)) for field in ("who", "in", "s") if dice.random() < 0.7],
        paths=[(f, [dice.choice(words) for _ in range(dice.randrange(4))]) for f in ("thing", "s", "in")],
        sets=[(f, [dice.choice(words) for _ in range(dice.randrange(3))]) for f in ("who", "s", "t")],
        numbers=[(f, dice.randrange(-8, 9)) for f in ("who", "s")],
    )


def random_target(dice, sets, words):
    if dice.random() < 0.5:
        return ("set", dice.choice(sets))
    return ("names", tuple(sorted(dice.sample(words, dice.randrange(len(words) + 1)))))


def random_case(dice, many, sets="stu", words="abc", parts=4, with_others=False):
    """A case of this many literals with few terms, so that they often have to do with each other."""
    terms = [("name", word) for word in ("", *words[:2])]
    fields = [("field", "f"), ("field", "g")]
    paths = [("part", "p", index) for index in range(parts)]
    literals, others = [], []
    while len(literals) < many:
        few = [dice.choice(dice.choice([terms, fields, paths] + [others] * bool(others))) for _ in range(2)]
        kind = dice.choice(("is", "is", "in", "within"))
        if kind == "is":
            atom = ("is", *few)
        elif kind == "in":
            atom = ("in", few[0], dice.choice(sets))
        else:
            atom = ("within", dice.choice(sets), random_target(dice, sets, words))
            others += [("other", *atom[1:])] * with_others
        if is_atom(atom):
            literals.append((atom, dice.random() < 0.6))
    return tuple(literals)
