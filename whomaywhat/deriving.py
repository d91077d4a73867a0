"""The search for derivations: what follows from a case, until two facts do not go together."""

from whomaywhat.steps import indexes_in, outcome_of, with_indexes
from whomaywhat.terms import BLANK


def derivation_for(case):
    """A right derivation for the case without needless steps, or () if there is none."""
    search = Search(case)
    closing = search.closing_step()
    if closing is None:
        return ()
    return _needed_steps([*search.steps, closing])


def _needed_steps(steps):
    """The last step and the steps that it needs, with their indexes put right."""
    needed = {len(steps) - 1: True}
    for place in reversed(range(len(steps))):
        if place in needed:
            for index in indexes_in(steps[place]):
                needed[index] = True
    kept = sorted(needed)
    places = {index: place for place, index in enumerate(kept)}
    return tuple([with_indexes(steps[index], places) for index in kept])


class Search:
    """The steps that were found for a case, and what their facts show.

    Steps and facts are spoken of by their indexes. The terms that are known to be the same make a
    tree with one of them as its root, and what is known of sets is known of the roots.
    """

    def __init__(self, case):
        # A dict, so that it is quick to see whether a literal belongs to the case.
        self.case = {literal: True for literal in case}
        self.steps = []
        self.facts = []
        self.known = {}
        # For each term the facts that it is the same as some other term.
        self.ties = {BLANK: []}
        # For each path field the greatest index with which it stands in the case.
        self.tops = {}
        # The facts that a term is in a set, and those that say that something is not so.
        self.memberships = []
        self.denials = []
        # For each set field the literals that it is within another set, or within a list.
        self.passes = {}
        self.lists = {}
        for literal in case:
            self._start_from(literal)
        # For each term the root of its tree, and the fact that it is the same as the root.
        self.roots = {}
        self.to_root = {}
        for term in self.ties:
            if term not in self.roots:
                self._grow_tree(term)
        # For a root and a set field the fact that the root is in the set.
        self.inside = {}
        self._fill_sets()
        # For each root a name in its tree, and for two roots the fact that denies their sameness.
        self.names = {}
        self.parted = {}
        self._deny_what_cannot_be()

    def note(self, step):
        """The fact of the step, which is right; it is known once, by the first step that gives it."""
        fact = outcome_of(self.case, self.facts, step)[0]
        if fact not in self.known:
            self.known[fact] = len(self.steps)
            self.steps.append(step)
            self.facts.append(fact)
        return self.known[fact]

    def turned(self, place):
        """The fact with its two terms turned."""
        _, one, other = self.facts[place][0]
        return place if one == other else self.note(("turn", place))

    def joined(self, first, second):
        """What follows from the fact that two terms are the same and a fact about the latter."""
        _, one, other = self.facts[first][0]
        return second if one == other else self.note(("join", first, second))

    def _start_from(self, literal):
        (kind, one, other), truth = literal[0][:3], literal[1]
        if kind == "within" and truth:
            table = self.passes if other[0] == "set" else self.lists
            table.setdefault(one, []).append(literal)
        elif kind == "within":
            self._start_from_witness(literal, ("other", one, other), other)
        elif kind in ("is", "in"):
            self._meet_term(one)
            place = self.note(("given", literal))
            if kind == "is":
                self._meet_term(other)
            if not truth:
                self.denials.append(place)
            elif kind == "in":
                self.memberships.append(place)
            else:
                self.ties[one].append(place)
                self.ties[other].append(self.turned(place))

    def _start_from_witness(self, literal, term, target):
        self._meet_term(term)
        self.memberships.append(self.note(("over", literal)))
        words = [""] if target[0] == "set" else target[1]
        for word in words:
            self._meet_term(("name", word))
            self.denials.append(self.note(("beyond", literal, word)))

    def _meet_term(self, term):
        self.ties.setdefault(term, [])
        if term[0] == "part":
            self.tops[term[1]] = max(term[2], self.tops.get(term[1], 0))

    def _grow_tree(self, root):
        self.roots[root] = root
        self.to_root[root] = self.note(("same", root))
        waiting = [root]
        at = 0
        while at < len(waiting):
            reached = self._terms_next_to(waiting[at], root)
            for term, way in reached:
                if term not in self.roots:
                    self.roots[term] = root
                    self.to_root[term] = way
                    waiting.append(term)
            at += 1

    def _terms_next_to(self, term, root):
        """Pairs of a term that must be in the tree as well, and the fact that it is the root."""
        way = self.to_root[term]
        reached = []
        if root == BLANK and term[0] == "part" and term[2] < self.tops[term[1]]:
            reached.append((("part", term[1], term[2] + 1), self.note(("end", way))))
        for tie in self.ties.get(term, []):
            other = self.facts[tie][0][2]
            if other not in self.roots:
                reached.append((other, self.joined(self.turned(tie), way)))
        return reached

    def _fill_sets(self):
        waiting = []
        for place in self.memberships:
            term = self.facts[place][0][1]
            waiting.append(self.joined(self.turned(self.to_root[term]), place))
        at = 0
        while at < len(waiting):
            _, root, field = self.facts[waiting[at]][0]
            if (root, field) not in self.inside:
                self.inside[(root, field)] = waiting[at]
                for literal in self.passes.get(field, []):
                    waiting.append(self.note(("pass", waiting[at], literal)))
            at += 1

    def _deny_what_cannot_be(self):
        """Adds that different names are different, and that no member of a set is the blank."""
        for term, root in self.roots.items():
            if term[0] == "name":
                name = self.names.setdefault(root, term[1])
                if name != term[1]:
                    self.denials.append(self.note(("unlike", name, term[1])))
        for root, field in self.inside:
            if root == BLANK:
                self.denials.append(self.note(("filled", self.inside[(root, field)])))
        for place in self.denials:
            kind, one, other = self.facts[place][0]
            if kind == "is":
                self.parted[(self.roots[one], self.roots[other])] = place
                self.parted[(self.roots[other], self.roots[one])] = self.turned(place)

    def closing_step(self):
        """A step that closes the derivation, or None if no step does."""
        for place in self.denials:
            opposite = self._opposite_of(place)
            if opposite is not None:
                return ("clash", opposite, place)
        for root, field in self.inside:
            for literal in self.lists.get(field, []):
                others = [self._not_the_name(root, word) for word in literal[0][2][1]]
                if None not in others:
                    return ("listed", self.inside[(root, field)], literal, tuple(others))
        return None

    def _opposite_of(self, place):
        """The fact that what is denied there is so, or None if it does not follow."""
        kind, one, other = self.facts[place][0]
        if kind == "is":
            return self._sameness(one, other) if self.roots[one] == self.roots[other] else None
        if (self.roots[one], other) in self.inside:
            return self.joined(self.to_root[one], self.inside[(self.roots[one], other)])
        return None

    def _sameness(self, one, other):
        """The fact that two terms of one tree are the same."""
        return self.joined(self.to_root[one], self.turned(self.to_root[other]))

    def _not_the_name(self, root, word):
        """The fact that a root is not the same as the name of the word, or None if it does not follow."""
        name = ("name", word)
        own = self.names.get(root, word)
        if own != word:
            return self.joined(self._sameness(root, ("name", own)), self.note(("unlike", own, word)))
        if (root, self.roots.get(name, name)) not in self.parted:
            return None
        # The denial may be about any two terms of the two trees: each side is led to the one meant.
        denial = self.parted[(root, self.roots[name])]
        _, one, other = self.facts[denial][0]
        denial = self.turned(self.joined(self._sameness(root, one), denial))
        return self.turned(self.joined(self._sameness(name, other), denial))
