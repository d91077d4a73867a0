"""What a case says of conditions and views: guesses and sure verdicts."""

from whomaywhat.forms import form_of, guess_of, rows_of, truths_of, verdict_of


def guess(condition, case):
    """The guess of a primitive condition in the case: True, False or None."""
    return guess_of(form_of(condition), truths_of(case))


def sure_verdict(view, case):
    """The sure verdict of the view in the case: "permit", "refuse" or None."""
    return verdict_of(rows_of(view), truths_of(case))
