"""Trimming: leaving out the splits of a paper that it does not need."""

from whomaywhat.forms import Question, truths_of
from whomaywhat.papers import cases_of_split
from whomaywhat.steps import literals_in


def trimmed(left, right, where, paper):
    """The trimmed paper; the judge takes the paper for the question."""
    question = Question(left, right, where)
    # From the last line on, so that the two branches behind a split are trimmed before it. The
    # branch of the true case comes first in the paper, so it is the last one that was trimmed.
    branches = []
    for line, case in reversed(_lines_with_cases(paper)):
        if line[0] == "split":
            true_branch = branches.pop()
            false_branch = branches.pop()
            branches.append(_joined(line, true_branch, false_branch))
        else:
            branches.append(((line,), _used_by(question, line, case)))
    return branches[0][0]


def _lines_with_cases(paper):
    """The list of pairs of a line and the case that it is about."""
    pairs = []
    cases = [()]
    for line in paper:
        case = cases.pop()
        pairs.append((line, case))
        if line[0] == "split":
            cases.extend(cases_of_split(case, line[1]))
    return pairs


def _joined(line, true_branch, false_branch):
    """The trimmed branch that begins with this split: its lines and the literals that it uses."""
    atom = line[1]
    if (atom, True) not in true_branch[1]:
        return true_branch
    if (atom, False) not in false_branch[1]:
        return false_branch
    used = {**true_branch[1], **false_branch[1]}
    del used[(atom, True)], used[(atom, False)]
    return ((line, *true_branch[0], *false_branch[0]), used)


def _used_by(question, line, case):
    """The literals that a line that closes the case uses, a dict with them as keys."""
    if line[0] == "ring":
        return {literal: True for literal in line[1]}
    if line[0] == "steps":
        return {literal: True for step in line[1] for literal in literals_in(step)}
    truths = truths_of(case)
    used = {}
    for atom, truth in case:
        del truths[atom]
        if not question.is_closed_by(line[0], truths):
            truths[atom] = truth
            used[(atom, truth)] = True
    return used
