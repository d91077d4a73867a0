"""Reasons: few atoms that show why a request, and every other one like it, is no answer."""

from whomaywhat.atoms import makes_true
from whomaywhat.forms import Question, atoms_of, truths_of


class Reasons:
    """Finds the atoms on which the answers to one question depend."""

    def __init__(self, left, right, where):
        self.question = Question(left, right, where)
        forms = [self.question.where]
        for _, _, form in (*self.question.left, *self.question.right):
            forms.append(form)
        # For each atom the number of forms in which it stands.
        self.counts = {}
        for form in forms:
            for atom in {found: True for found in atoms_of(form)}:
                self.counts[atom] = self.counts.get(atom, 0) + 1

    def why_not(self, case, request):
        """Atoms, a list, such that no request like this one is an answer; None if this one is.

        The request meets the case. The atoms are some of which the case does not tell; requests
        are like this one if they meet the case and agree with it on these atoms.
        """
        actual = {atom: makes_true(request, (atom, True)) for atom in self.counts}
        why = Why(self.counts, truths_of(case), actual)
        reason = None
        holds, atoms = why.decided_by(self.question.where, {})
        if not holds:
            reason = atoms
        reason = why.better(reason, why.of_verdict(self.question.left, "forbid"))
        reason = why.better(reason, why.of_verdict(self.question.right, "permit"))
        return None if reason is None else list(reason)


class Why:
    """What decides forms and verdicts, where the values of all atoms are known but only some told.

    A reason is a dict with atoms that are not told as keys.
    """

    def __init__(self, counts, told, actual):
        self.counts = counts
        self.told = told
        self.actual = actual

    def better(self, one, other):
        """The reason with fewer atoms, or with atoms that stand in more forms; None is no reason."""
        if one is None or other is None:
            return other if one is None else one
        return one if self._cost(one) <= self._cost(other) else other

    def _cost(self, reason):
        return (len(reason), -sum([self.counts[atom] for atom in reason]))

    def decided_by(self, form, known):
        """The value of the form, and a reason for it beside the known atoms."""
        if form is True or form is False:
            return form, {}
        if form[0] == "literal":
            atom = form[1]
            told = atom in self.told or atom in known
            return self.actual[atom] == form[2], ({} if told else {atom: True})
        if form[0] == "not":
            value, reason = self.decided_by(form[1], known)
            return not value, reason
        return self._decided_by_parts(form[1], form[0] == "any", known)

    def _decided_by_parts(self, forms, deciding, known):
        """The same for "all" and "any"; one form with the deciding value is enough."""
        best = None
        together = {}
        for form in forms:
            value, reason = self.decided_by(form, known)
            if value == deciding:
                best = self.better(best, reason)
            _add_to(together, reason)
        if best is None:
            return not deciding, together
        return deciding, best

    def of_verdict(self, rows, effect):
        """A reason why the rules of this effect prevail in the view with these rows, or None.

        Either one of them applies and no other rule overrides it, or, if they forbid, no other
        rule applies at all.
        """
        best = None
        against = {}
        # The rows come in such an order that those which override a row come before it.
        for other, _, form in rows:
            value, reason = self.decided_by(form, against)
            if other != effect:
                if value:
                    return best
                _add_to(against, reason)
            elif value:
                best = self.better(best, {**against, **reason})
        return self.better(best, against) if effect == "forbid" else best


def _add_to(atoms, more):
    for atom in more:
        atoms[atom] = True
