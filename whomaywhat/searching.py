"""The search for the earliest request that answers a question."""

from heapq import heappop, heappush

from whomaywhat.atoms import makes_true
from whomaywhat.models import least_model
from whomaywhat.ordering import place_of, question_cells
from whomaywhat.reasons import Reasons
from whomaywhat.views import mentioned_words


def earliest_answer(left, right, where):
    """The earliest request that answers the question, or None if there is none."""
    mentioned = mentioned_words(left, right, where)
    cells = question_cells(left, right, where)
    reasons = Reasons(left, right, ("all", (where, _some_difference(left, right))))
    # Cases in which there may be answers, no two with a request in common, each behind the place
    # of its least model. The first least model that is an answer comes before all other answers.
    waiting = []
    start = least_model(mentioned, ())
    heappush(waiting, (place_of(mentioned, cells, start), (), start))
    while waiting:
        _, case, model = heappop(waiting)
        atoms = reasons.why_not(case, model)
        if atoms is None:
            return model
        for atom in atoms:
            truth = makes_true(model, (atom, True))
            other_case = (*case, (atom, not truth))
            other_model = least_model(mentioned, other_case)
            if other_model is not None:
                heappush(waiting, (place_of(mentioned, cells, other_model), other_case, other_model))
            case = (*case, (atom, truth))
    return None


def _some_difference(left, right):
    """The condition that a rule applies which only one of the views has: else they agree."""
    rules = [rule for rule in left if rule not in right]
    rules.extend([rule for rule in right if rule not in left])
    return ("any", tuple([rule[3] for rule in rules]))
