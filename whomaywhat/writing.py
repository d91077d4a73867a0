"""The written form of conditions and books."""


def write_condition(condition):
    """The written form of a valid condition."""
    kind = condition[0]
    if kind == "true":
        return "yes"
    if kind == "false":
        return "no"
    inner = ", ".join(_written_arguments(condition))
    return f"{kind}({inner})"


def _written_arguments(condition):
    kind = condition[0]
    if kind == "is":
        return [_written_term(condition[1]), _written_term(condition[2])]
    if kind in ("in", "member"):
        return [_written_term(condition[1]), condition[2]]
    if kind == "within":
        return [condition[1], _written_target(condition[2])]
    if kind == "most":
        return [condition[1] or "0", condition[2] or "0", str(condition[3])]
    if kind in ("under", "at"):
        return [condition[1], _written_template(condition[2])]
    if kind == "not":
        return [write_condition(condition[1])]
    return [write_condition(inner) for inner in condition[1]]


def _written_term(term):
    if term[0] == "name":
        return _quoted(term[1])
    if term[0] == "field":
        return term[1]
    return f"{term[1]}.{term[2]}"


def _quoted(word):
    return f'"{word}"'


def _written_target(target):
    if target[0] == "set":
        return target[1]
    names = ", ".join([_quoted(word) for word in target[1]])
    return "{" + names + "}"


def _written_template(terms):
    if len(terms) == 0:
        return "/"
    return "".join(["/" + _written_term(term) for term in terms])


def write_book(book):
    """The text of a book, one line for each rule."""
    return "".join([_written_rule(rule) for rule in book])


def _written_rule(rule):
    name, effect, rank, condition = rule
    return f"{effect} {name} {rank} {write_condition(condition)}\n"
