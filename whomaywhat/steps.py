"""The steps of derivations: which are right, and what facts they give."""

from whomaywhat.terms import BLANK
from whomaywhat.words import is_word


def outcome_of(case, facts, step):
    """What the step gives behind the steps of these facts, in a tuple of one item.

    The item is the fact of the step, or None for a closing step. The tuple is empty if the step
    is not right. In the list of facts None stands for each closing step.
    """
    outcome = OUTCOMES[step[0]]
    return outcome(case, facts, step)


def indexes_in(step):
    """The indexes of earlier steps that stand in the step."""
    if step[0] in ("turn", "end", "filled", "pass"):
        return (step[1],)
    if step[0] in ("join", "clash"):
        return step[1:]
    if step[0] == "listed":
        return (step[1], *step[3])
    return ()


def literals_in(step):
    """The literals of the case that stand in the step."""
    if step[0] in ("given", "over", "beyond"):
        return (step[1],)
    if step[0] in ("pass", "listed"):
        return (step[2],)
    return ()


def with_indexes(step, places):
    """The step with each index in it replaced by its place."""
    if step[0] in ("turn", "end", "filled", "pass"):
        return (step[0], places[step[1]], *step[2:])
    if step[0] in ("join", "clash"):
        return (step[0], places[step[1]], places[step[2]])
    if step[0] == "listed":
        return ("listed", places[step[1]], step[2], tuple([places[index] for index in step[3]]))
    return step


def _fact_at(facts, index, kind):
    """The two items and the truth of the fact at the index, or None if it is none of this kind."""
    if index < 0 or index >= len(facts) or facts[index] is None:
        return None
    (found, one, other), truth = facts[index]
    return (one, other, truth) if found == kind else None


def _true_at(facts, index, kind):
    """The two items of the fact at the index, or None if it is no true fact of this kind."""
    fact = _fact_at(facts, index, kind)
    if fact is None or not fact[2]:
        return None
    return fact[:2]


def _belongs(case, literal, kind, truth):
    return literal in case and literal[0][0] == kind and literal[1] == truth


def _given(case, facts, step):
    literal = step[1]
    if literal in case and literal[0][0] in ("is", "in"):
        return (literal,)
    return ()


def _same(case, facts, step):
    return ((("is", step[1], step[1]), True),)


def _unlike(case, facts, step):
    one, other = step[1], step[2]
    if one == other or not _is_word_or_blank(one) or not _is_word_or_blank(other):
        return ()
    return ((("is", ("name", one), ("name", other)), False),)


def _is_word_or_blank(text):
    return text == "" or is_word(text)


def _turn(case, facts, step):
    fact = _fact_at(facts, step[1], "is")
    if fact is None:
        return ()
    one, other, truth = fact
    return ((("is", other, one), truth),)


def _join(case, facts, step):
    first = _true_at(facts, step[1], "is")
    for kind in ("is", "in"):
        second = _fact_at(facts, step[2], kind)
        if first is not None and second is not None and first[1] == second[0]:
            return (((kind, first[0], second[1]), second[2]),)
    return ()


def _end(case, facts, step):
    fact = _true_at(facts, step[1], "is")
    if fact is None or fact[0][0] != "part" or fact[1] != BLANK:
        return ()
    _, field, index = fact[0]
    return ((("is", ("part", field, index + 1), BLANK), True),)


def _filled(case, facts, step):
    fact = _true_at(facts, step[1], "in")
    if fact is None:
        return ()
    return ((("is", fact[0], BLANK), False),)


def _pass(case, facts, step):
    fact = _true_at(facts, step[1], "in")
    literal = step[2]
    if fact is None or not _belongs(case, literal, "within", True):
        return ()
    _, field, target = literal[0]
    if field != fact[1] or target[0] != "set":
        return ()
    return ((("in", fact[0], target[1]), True),)


def _over(case, facts, step):
    if not _belongs(case, step[1], "within", False):
        return ()
    _, field, target = step[1][0]
    return ((("in", ("other", field, target), field), True),)


def _beyond(case, facts, step):
    _, literal, word = step
    if not _belongs(case, literal, "within", False):
        return ()
    _, field, target = literal[0]
    other = ("other", field, target)
    if target[0] == "set" and word == "":
        return ((("in", other, target[1]), False),)
    if target[0] == "names" and word in target[1]:
        return ((("is", other, ("name", word)), False),)
    return ()


def _clash(case, facts, step):
    for kind in ("is", "in"):
        one = _fact_at(facts, step[1], kind)
        other = _fact_at(facts, step[2], kind)
        if one is not None and other is not None and one[:2] == other[:2] and one[2] != other[2]:
            return (None,)
    return ()


def _listed(case, facts, step):
    _, place, literal, others = step
    fact = _true_at(facts, place, "in")
    if fact is None or not _belongs(case, literal, "within", True):
        return ()
    _, field, target = literal[0]
    if field != fact[1] or target[0] != "names" or len(others) != len(target[1]):
        return ()
    for index, word in zip(others, target[1]):
        if _fact_at(facts, index, "is") != (fact[0], ("name", word), False):
            return ()
    return (None,)


OUTCOMES = {
    "given": _given,
    "same": _same,
    "unlike": _unlike,
    "turn": _turn,
    "join": _join,
    "end": _end,
    "filled": _filled,
    "pass": _pass,
    "over": _over,
    "beyond": _beyond,
    "clash": _clash,
    "listed": _listed,
}
