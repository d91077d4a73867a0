"""The house: rules, groups and grants that deeds change, and the decisions that are kept."""

from whomaywhat.deeds import book_of, carried_out
from whomaywhat.directory import Directory
from whomaywhat.errors import NothingToRedo, NothingToUndo, Widening
from whomaywhat.grants import Grants
from whomaywhat.rules import check_rule, decide, rules_that_apply
from whomaywhat.uses import newly_permitted
from whomaywhat.views import view_of


class House:
    """A book, a directory, grants and a history; guarded or not."""

    def __init__(self, rules=(), links=(), *, guarded=False):
        for rule in rules:
            check_rule(rule)
        self._guarded = guarded
        self._directory = Directory(links)
        self._state = (book_of(rules), self._directory.links(), ())
        self._rules = _rules_of(self._state)
        # The states before the deeds that are not undone, and those after the undone ones.
        self._past = []
        self._undone = []
        self._decisions = {}

    @property
    def guarded(self):
        """True if no deed may permit a request that was refused before."""
        return self._guarded

    def do(self, deed):
        """Carries out the deed; returns the number of the grant that it makes, or None."""
        state, number = self._outcome_of(deed)
        directory = Directory(state[1])
        rules = _rules_of(state)
        if self._guarded:
            request = newly_permitted(self.view(), view_of(rules, directory))
            if request is not None:
                raise Widening(request)
        # From here on nothing raises an error any more.
        self._write_history(deed[0])
        self._decisions = self._decisions_after(rules, directory)
        self._state = state
        self._directory = directory
        self._rules = rules
        return number

    def _outcome_of(self, deed):
        """The state after the deed, and the number of the grant that it makes, or None."""
        if deed[0] == "undo":
            if len(self._past) == 0:
                raise NothingToUndo("no deed is left that could be undone")
            return self._past[-1], None
        if deed[0] == "redo":
            if len(self._undone) == 0:
                raise NothingToRedo("no undone deed is left")
            return self._undone[-1], None
        return carried_out(self._state, deed)

    def _write_history(self, kind):
        if kind == "undo":
            self._past.pop()
            self._undone.append(self._state)
            return
        if kind == "redo":
            self._undone.pop()
        else:
            self._undone = []
        self._past.append(self._state)

    def _decisions_after(self, rules, directory):
        """The kept decisions that stay when the rules and the directory become these."""
        gone = [rule for rule in self._rules if rule not in rules]
        new = [rule for rule in rules if rule not in self._rules]
        stay = {}
        for request, decision in self._decisions.items():
            changed = rules_that_apply(gone, request, self._directory) or rules_that_apply(new, request, directory)
            if not changed and not self._moves(request, directory):
                stay[request] = decision
        return stay

    def _moves(self, request, directory):
        """True if some word or part of the request belongs to other groups in that directory."""
        words = [word for _, word in request[0]]
        words.extend([part for _, parts in request[1] for part in parts])
        return any(directory.groups(word) != self._directory.groups(word) for word in words)

    def ask(self, request):
        """The decision of the house on the request, which is kept."""
        if request not in self._decisions:
            self._decisions[request] = decide(self._rules, request, self._directory)
        return self._decisions[request]

    def rules(self):
        """The rules of the book and of the standing grants, in alphabetical order of their names."""
        return self._rules

    def view(self):
        """The view of the rules and the directory."""
        return view_of(self._rules, self._directory)

    def state(self):
        """The book, the links of the directory and the records of the grants."""
        return self._state

    def kept(self):
        """The requests whose decisions are kept, in the order in which they were first decided."""
        return tuple(self._decisions)


def _rules_of(state):
    """The rules of the book and of the standing grants of a state."""
    grants = Grants(state[2])
    return book_of([*state[0], *grants.rules()])
