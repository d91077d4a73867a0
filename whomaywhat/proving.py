"""Writing papers that no request, or none before a given one, answers a question."""

from whomaywhat.atoms import makes_true
from whomaywhat.closing import closing_lines
from whomaywhat.forms import Question, form_of, truths_of, untold_atom
from whomaywhat.models import least_model
from whomaywhat.ordering import earlier_than, place_of, question_cells
from whomaywhat.papers import cases_of_split
from whomaywhat.reasons import Reasons
from whomaywhat.views import mentioned_words


class Writer:
    """Writes the paper for a question, cut down to the requests before its earliest answer.

    The answer is None if there is none, and then the paper is for the question itself.
    """

    def __init__(self, left, right, where, answer):
        self.mentioned = mentioned_words(left, right, where)
        self.cells = question_cells(left, right, where)
        self.reasons = Reasons(left, right, where)
        self.question = self.reasons.question
        self.end = None
        self.earlier = True
        if answer is not None:
            earlier = earlier_than(left, right, where, answer)
            self.question = Question(left, right, ("all", (where, earlier)))
            self.end = place_of(self.mentioned, self.cells, answer)
            self.earlier = form_of(earlier)

    def paper(self):
        """The lines of the paper, a tuple."""
        lines = []
        # Open cases as the judge keeps them, each with its least model if that is known already.
        waiting = [((), least_model(self.mentioned, ()))]
        while waiting:
            case, model = waiting.pop()
            line = self._line_by_guesses(case)
            if line is not None:
                lines.append(line)
                continue
            if model is None:
                model = least_model(self.mentioned, case)
            if model is None:
                lines.extend(closing_lines(case))
                continue
            atom = self._atom_to_split(case, model)
            lines.append(("split", atom))
            for further in cases_of_split(case, atom):
                waiting.append((further, model if makes_true(model, further[-1]) else None))
        return tuple(lines)

    def _line_by_guesses(self, case):
        truths = truths_of(case)
        for kind in ("outside", "left", "right"):
            if self.question.is_closed_by(kind, truths):
                return (kind,)
        return None

    def _atom_to_split(self, case, model):
        if self.end is None or place_of(self.mentioned, self.cells, model) < self.end:
            return self.reasons.why_not(case, model)[0]
        # No request of the case comes before the answer, but that must be told cell by cell.
        return untold_atom(self.earlier, truths_of(case))


def paper_for(left, right, where, answer):
    """A paper for the question, or for the part of it before its earliest answer."""
    writer = Writer(left, right, where, answer)
    return writer.paper()
