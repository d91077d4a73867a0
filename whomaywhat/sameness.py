"""Cases of words and sets: derivations that show that no request meets a case."""

from whomaywhat.deriving import derivation_for
from whomaywhat.steps import outcome_of


def facts_of(case, steps):
    """The list of the facts of the steps, None for a closing step; None if some step is not right."""
    facts = []
    for step in steps:
        outcome = outcome_of(case, facts, step)
        if len(outcome) == 0:
            return None
        facts.append(outcome[0])
    return facts


def is_closed(case, steps):
    """True if the derivation is right for the case."""
    facts = facts_of(case, steps)
    return facts is not None and None in facts and facts.index(None) == len(facts) - 1


def find_steps(case):
    """A right derivation for the case, or () if it has none."""
    return derivation_for(case)
