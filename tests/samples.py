"""Random valid conditions and requests for the tests."""

WORDS = ("a", "b", "aa", "who", "is", "not", "permit", "zoe", "x" * 30)
FIELDS = ("who", "in", "thing", "s", "t")
INTEGERS = (0, 1, -1, 7, 10, -300, 10 ** 59, 10 ** 60 - 1, -(10 ** 60 - 1))


def some_names(dice):
    return tuple(sorted({dice.choice(WORDS) for _ in range(dice.randrange(4))}))


def variable(dice):
    if dice.random() < 0.5:
        return ("field", dice.choice(FIELDS))
    return ("part", dice.choice(FIELDS), dice.choice((0, 1, 2, 9, 10, 40)))


def term(dice):
    if dice.random() < 0.4:
        return ("name", dice.choice(WORDS + ("",)))
    return variable(dice)


def template(dice):
    size = dice.choice((0, 1, 2, 3, 40)) if dice.random() < 0.2 else dice.randrange(3)
    terms = [term(dice) for _ in range(size)]
    return tuple(("name", "b") if one == ("name", "") else one for one in terms)


def target(dice):
    return ("set", dice.choice(FIELDS)) if dice.random() < 0.5 else ("names", some_names(dice))


def condition(dice, depth, kinds=None):
    """A valid condition of at most this depth."""
    simple = ("true", "false", "is", "in", "within", "most", "member", "under", "at")
    kind = dice.choice(kinds or (simple if depth == 1 else simple + ("not", "all", "any") * 4))
    if kind in ("true", "false"):
        return (kind,)
    if kind == "is":
        return (kind, term(dice), term(dice))
    if kind == "in":
        return (kind, term(dice), dice.choice(FIELDS))
    if kind == "within":
        return (kind, dice.choice(FIELDS), target(dice))
    if kind == "most":
        return (kind, dice.choice(FIELDS + ("",)), dice.choice(FIELDS + ("",)), dice.choice(INTEGERS))
    if kind == "member":
        return (kind, variable(dice), dice.choice(FIELDS))
    if kind in ("under", "at"):
        return (kind, dice.choice(FIELDS), template(dice))
    if kind == "not":
        return (kind, condition(dice, depth - 1))
    return (kind, tuple(condition(dice, depth - 1) for _ in range(dice.randrange(4))))


def nested(depth, deepest=("true",), kinds=("not",)):
    """A condition of this depth; its outer conditions are of these kinds, by turns."""
    result = deepest
    for level in range(depth - 1):
        kind = kinds[level % len(kinds)]
        result = (kind, result) if kind == "not" else (kind, (("true",), result, ("false",)))
    return result
