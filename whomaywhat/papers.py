"""Papers, which show that no request answers a question, and the judge who checks them."""

from whomaywhat.atoms import is_atom
from whomaywhat.bounds import is_ring
from whomaywhat.forms import Question, truths_of
from whomaywhat.sameness import is_closed


def judge(left, right, where, paper):
    """True if the judge takes the paper for the question."""
    question = Question(left, right, where)
    cases = [()]
    for line in paper:
        if len(cases) == 0:
            return False
        case = cases.pop()
        if line[0] == "split":
            if not _can_split(line[1]):
                return False
            cases.extend(cases_of_split(case, line[1]))
        elif not _closes(question, case, line):
            return False
    return len(cases) == 0


def _can_split(atom):
    return atom[0] in ("is", "in", "within", "most") and is_atom(atom)


def cases_of_split(case, atom):
    """The two cases of a split; the one that comes next is the last."""
    return [(*case, (atom, False)), (*case, (atom, True))]


def _closes(question, case, line):
    if line[0] == "ring":
        return all(_is_bound_of(case, literal) for literal in line[1]) and is_ring(line[1])
    if line[0] == "steps":
        return is_closed(case, line[1])
    return question.is_closed_by(line[0], truths_of(case))


def _is_bound_of(case, literal):
    return literal in case and literal[0][0] == "most"
