"""Views: rules whose conditions do not depend on a directory, and the questions asked of them."""

from whomaywhat.atoms import listed_words, literal_of, terms_of
from whomaywhat.conditions import FALSE, TRUE, inner_conditions
from whomaywhat.terms import BLANK


def compiled(condition, directory):
    """The primitive condition that says the same as the condition with this directory."""
    kind = condition[0]
    if kind == "not":
        return ("not", compiled(condition[1], directory))
    if kind in ("all", "any"):
        return (kind, tuple([compiled(inner, directory) for inner in condition[1]]))
    if kind == "member":
        term, group = condition[1:]
        return _joined("any", [("is", term, ("name", word)) for word in directory.members(group)])
    if kind == "under":
        return _joined("all", _conditions_of_template(condition[1], condition[2]))
    if kind == "at":
        end = ("is", ("part", condition[1], len(condition[2])), BLANK)
        return _joined("all", [*_conditions_of_template(condition[1], condition[2]), end])
    return condition


def _joined(kind, conditions):
    """The conditions as one of the kind "all" or "any", without needless depth."""
    if len(conditions) == 0:
        return TRUE if kind == "all" else FALSE
    if len(conditions) == 1:
        return conditions[0]
    return (kind, tuple(conditions))


def _conditions_of_template(field, terms):
    conditions = []
    for index, term in enumerate(terms):
        part = ("part", field, index)
        conditions.append(("is", part, term))
        # Two blanks are the same, but no match; a name in a template is never the blank.
        if term[0] != "name":
            conditions.append(("not", ("is", part, BLANK)))
    return conditions


def view_of(rules, directory):
    """The view of a set of rules: their names, effects and ranks with compiled conditions."""
    view = [(name, effect, rank, compiled(condition, directory)) for name, effect, rank, condition in rules]
    return tuple(sorted(view, key=lambda rule: rule[0]))


def mentioned_words(left, right, where):
    """The mentioned words of the question, a tuple in alphabetical order."""
    words = {}
    for condition in simple_conditions(left, right, where):
        for word in _words_in(condition):
            if word != "":
                words[word] = True
    return tuple(sorted(words))


def question_atoms(left, right, where):
    """The atoms of the question, a tuple in ascending order."""
    atoms = {}
    for condition in simple_conditions(left, right, where):
        literal = literal_of(condition)
        if literal is not True and literal is not False:
            atoms[literal[0]] = True
    return tuple(sorted(atoms))


def simple_conditions(left, right, where):
    """The simple conditions that stand anywhere in the question."""
    conditions = [rule[3] for rule in (*left, *right)]
    return [simple for condition in (*conditions, where) for simple in _simple_within(condition)]


def _simple_within(condition):
    if condition[0] in ("is", "in", "within", "most"):
        return [condition]
    return [simple for inner in inner_conditions(condition) for simple in _simple_within(inner)]


def _words_in(condition):
    """The words and blanks of the name terms and the names in a simple condition."""
    names = [term[1] for term in terms_of(condition) if term[0] == "name"]
    return [*names, *listed_words(condition)]
