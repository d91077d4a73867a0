"""Comparing two views: the earliest request that tells them apart, and the paper for the rest."""

from whomaywhat.conditions import TRUE
from whomaywhat.proving import paper_for
from whomaywhat.searching import earliest_answer


def compare(left, right, *, where=TRUE):
    """("none", paper), or ("apart", request, paper) with the earliest request that is an answer."""
    answer = earliest_answer(left, right, where)
    paper = paper_for(left, right, where, answer)
    return ("none", paper) if answer is None else ("apart", answer, paper)
