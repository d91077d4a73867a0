"""Forms: conditions and views that are reduced once, so that they can be guessed in many cases.

The form of a condition is True, False, ("literal", atom, truth), ("not", form), ("all", forms) or
("any", forms). A view is given as rows (effect, rank, form). What a case tells is given as
truths, a dict that has the truth of each atom of which the case tells it.
"""

from whomaywhat.atoms import literal_of


def form_of(condition):
    """The form of a primitive condition."""
    kind = condition[0]
    if kind in ("true", "false"):
        return kind == "true"
    if kind == "not":
        return ("not", form_of(condition[1]))
    if kind in ("all", "any"):
        return (kind, tuple([form_of(inner) for inner in condition[1]]))
    literal = literal_of(condition)
    if literal is True or literal is False:
        return literal
    return ("literal", *literal)


def rows_of(view):
    """The rows of a view, the greatest rank first, and at each rank the forbidding rules first."""
    rows = [(effect, rank, form_of(condition)) for _, effect, rank, condition in view]
    return tuple(sorted(rows, key=lambda row: (-row[1], row[0])))


def truths_of(case):
    """What the case tells: of several literals with one atom the first counts."""
    truths = {}
    for atom, truth in case:
        truths.setdefault(atom, truth)
    return truths


def guess_of(form, truths):
    """The guess of the condition of this form: True, False or None."""
    if form is True or form is False:
        return form
    if form[0] == "literal":
        told = truths.get(form[1])
        return None if told is None else told == form[2]
    if form[0] == "not":
        guess = guess_of(form[1], truths)
        return None if guess is None else not guess
    return _guess_of_several(form[1], form[0] == "any", truths)


def _guess_of_several(forms, deciding, truths):
    """The guess of "all" or "any"; one form with the deciding guess is enough."""
    unsure = False
    for form in forms:
        guess = guess_of(form, truths)
        if guess is None:
            unsure = True
        elif guess == deciding:
            return deciding
    return None if unsure else not deciding


def untold_atom(form, truths):
    """The first atom on which the guess of the form, which is None, may depend; no "not" is in it."""
    if form[0] == "literal":
        return form[1]
    unsure = [inner for inner in form[1] if guess_of(inner, truths) is None]
    return untold_atom(unsure[0], truths)


def verdict_of(rows, truths):
    """The sure verdict of the view with these rows: "permit", "refuse" or None."""
    guessed = [(effect, rank, guess_of(form, truths)) for effect, rank, form in rows]
    sure = [(rank, effect) for effect, rank, guess in guessed if guess is True]
    # What is below the greatest rank that surely applies does not count.
    floor = max([rank for rank, _ in sure], default=None)
    open_rows = [row for row in guessed if row[2] is not False and (floor is None or row[1] >= floor)]
    may_refuse = floor is None or any(effect == "forbid" for effect, _, _ in open_rows)
    # A permitting rule decides only where no forbidding rule of its rank surely applies.
    may_permit = any(effect == "permit" and (rank, "forbid") not in sure for effect, rank, _ in open_rows)
    if may_refuse and may_permit:
        return None
    return "permit" if may_permit else "refuse"


def atoms_of(form):
    """The atoms in a form, a list, perhaps with duplicates."""
    if form is True or form is False:
        return []
    if form[0] == "literal":
        return [form[1]]
    inner_forms = (form[1],) if form[0] == "not" else form[1]
    return [atom for inner in inner_forms for atom in atoms_of(inner)]


class Question:
    """A question about two views and a condition, prepared for guesses."""

    def __init__(self, left, right, where):
        self.left = rows_of(left)
        self.right = rows_of(right)
        self.where = form_of(where)

    def is_closed_by(self, kind, truths):
        """True if the line "outside", "left" or "right" is right for a case that tells the truths."""
        if kind == "outside":
            return guess_of(self.where, truths) is False
        if kind == "left":
            return verdict_of(self.left, truths) == "refuse"
        return kind == "right" and verdict_of(self.right, truths) == "permit"
