"""Reading conditions and books from their texts."""

from whomaywhat.conditions import FALSE, MOST_DEPTH, MOST_INDEX, MOST_TERMS, TRUE
from whomaywhat.errors import BadText
from whomaywhat.scanning import Scanner


def read_condition(text):
    """The valid condition of which the text is the written form, with any spaces."""
    scanner = Scanner(text, 1)
    condition = _condition(scanner, 1)
    scanner.take_end()
    return condition


def read_book(text):
    """The book of which this is the text."""
    lines = text.split("\n")
    rest = lines.pop()
    rules = []
    for line in lines:
        rules.append(_rule(line, rules))
    if rest != "":
        _rule(rest, rules)
        raise BadText(len(rules) + 1, len(rest) + 1)
    return tuple(rules)


def _rule(line, before):
    """The rule of a line; before has the rules of the lines before it."""
    scanner = Scanner(line, len(before) + 1)
    if scanner.value() not in ("permit", "forbid"):
        scanner.refuse()
    effect = scanner.take("word")
    name = _rule_name(scanner, before)
    rank = scanner.take("integer")
    condition = _condition(scanner, 1)
    scanner.take_end()
    return (name, effect, rank, condition)


def _rule_name(scanner, before):
    name = scanner.value()
    if scanner.sees("word") and name.startswith("grant"):
        scanner.refuse()
    if scanner.sees("word") and before and name <= before[-1][0]:
        scanner.refuse()
    return scanner.take("word")


def _condition(scanner, depth):
    if depth > MOST_DEPTH:
        scanner.refuse()
    if scanner.value() not in ("yes", "no") and scanner.value() not in ARGUMENTS:
        scanner.refuse()
    kind = scanner.take("word")
    if kind == "yes":
        return TRUE
    if kind == "no":
        return FALSE
    read_arguments = ARGUMENTS[kind]
    scanner.take_sign("(")
    arguments = read_arguments(scanner, depth)
    scanner.take_sign(")")
    return (kind, *arguments)


def _is_arguments(scanner, depth):
    one = _term(scanner)
    scanner.take_sign(",")
    return (one, _term(scanner))


def _in_arguments(scanner, depth):
    term = _term(scanner)
    scanner.take_sign(",")
    return (term, scanner.take("word"))


def _within_arguments(scanner, depth):
    field = scanner.take("word")
    scanner.take_sign(",")
    return (field, _target(scanner))


def _most_arguments(scanner, depth):
    one = _number_field(scanner)
    scanner.take_sign(",")
    other = _number_field(scanner)
    scanner.take_sign(",")
    return (one, other, scanner.take("integer"))


def _member_arguments(scanner, depth):
    if not scanner.sees("word"):
        scanner.refuse()
    return _in_arguments(scanner, depth)


def _template_arguments(scanner, depth):
    field = scanner.take("word")
    scanner.take_sign(",")
    return (field, _template(scanner))


def _not_arguments(scanner, depth):
    return (_condition(scanner, depth + 1),)


def _list_arguments(scanner, depth):
    if scanner.sees_sign(")"):
        return ((),)
    conditions = [_condition(scanner, depth + 1)]
    while scanner.sees_sign(","):
        scanner.take_sign(",")
        conditions.append(_condition(scanner, depth + 1))
    return (tuple(conditions),)


def _term(scanner):
    if scanner.sees("name"):
        return ("name", scanner.take("name"))
    field = scanner.take("word")
    if not scanner.sees_sign("."):
        return ("field", field)
    scanner.take_sign(".")
    if scanner.sees("integer") and not 0 <= scanner.value() <= MOST_INDEX:
        scanner.refuse()
    return ("part", field, scanner.take("integer"))


def _target(scanner):
    if scanner.sees("word"):
        return ("set", scanner.take("word"))
    scanner.take_sign("{")
    names = []
    if not scanner.sees_sign("}"):
        names.append(_name_after(scanner, ""))
    while scanner.sees_sign(","):
        scanner.take_sign(",")
        names.append(_name_after(scanner, names[-1]))
    scanner.take_sign("}")
    return ("names", tuple(names))


def _name_after(scanner, before):
    # Nothing is less than the blank, so a blank never fits, not even as the first name.
    if scanner.sees("name") and scanner.value() <= before:
        scanner.refuse()
    return scanner.take("name")


def _template(scanner):
    scanner.take_sign("/")
    if not scanner.sees("word") and not scanner.sees("name"):
        return ()
    terms = [_template_term(scanner)]
    while len(terms) < MOST_TERMS and scanner.sees_sign("/"):
        scanner.take_sign("/")
        terms.append(_template_term(scanner))
    return tuple(terms)


def _template_term(scanner):
    if scanner.sees("name") and scanner.value() == "":
        scanner.refuse()
    return _term(scanner)


def _number_field(scanner):
    if scanner.sees("word"):
        return scanner.take("word")
    if scanner.value() != 0:
        scanner.refuse()
    scanner.take("integer")
    return ""


ARGUMENTS = {
    "is": _is_arguments,
    "in": _in_arguments,
    "within": _within_arguments,
    "most": _most_arguments,
    "member": _member_arguments,
    "under": _template_arguments,
    "at": _template_arguments,
    "not": _not_arguments,
    "all": _list_arguments,
    "any": _list_arguments,
}
