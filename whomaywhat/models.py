"""Possible cases, and the least models of plain cases."""

from whomaywhat.atoms import number_fields_of, set_fields_of, terms_of
from whomaywhat.bounds import find_ring, nearest_numbers
from whomaywhat.clusters import can_be_met, clusters_of
from whomaywhat.requests import make_request
from whomaywhat.words import fresh_words, word_number


def is_possible(case):
    """True if some request meets the plain case."""
    return find_ring(_number_literals(case)) == () and can_be_met(clusters_of(case))


def least_model(mentioned, case):
    """The earliest request that meets the plain case, or None if there is none."""
    if not is_possible(case):
        return None
    choice = Choice(mentioned, clusters_of(case))
    terms = _terms_in(case)
    words = [(term[1], choice.least_word(term)) for term in terms if term[0] == "field"]
    paths = _least_paths(choice, [term for term in terms if term[0] == "part"])
    sets = [(field, choice.least_set(field)) for field in _set_fields(case)]
    literals = _number_literals(case)
    fields = _number_fields(literals)
    numbers = list(zip(fields, nearest_numbers(literals, fields)))
    return make_request(words=words, paths=paths, sets=sets, numbers=numbers)


def _number_literals(case):
    return tuple([literal for literal in case if literal[0][0] == "most"])


def _terms_in(case):
    """The terms of the literals, in ascending order without duplicates."""
    return sorted({term: True for atom, _ in case for term in terms_of(atom)})


def _set_fields(case):
    return sorted({field: True for atom, _ in case for field in set_fields_of(atom)})


def _number_fields(literals):
    return tuple(sorted({field: True for atom, _ in literals for field in number_fields_of(atom)}))


def _least_paths(choice, terms):
    """Pairs of a path field and its parts; the terms are part terms in ascending order."""
    paths = {}
    for term in terms:
        parts = paths.setdefault(term[1], [])
        # If this part can be blank, the path ends in front of the parts that nothing speaks of.
        if not choice.choose(term, ""):
            parts.extend([choice.first_word()] * (term[2] - len(parts)))
            parts.append(choice.least_word(term))
    return list(paths.items())


def _stock_for(mentioned, clusters):
    """The blank and all words that the least model may need, in the stock order."""
    known = [word for word in clusters.words.values() if word != "" and word not in mentioned]
    # Each cluster without a word needs at most one word that is not known, and all the parts of
    # which nothing is said have one word.
    new = fresh_words((*mentioned, *known), len(clusters.inside) - len(clusters.words) + 1)
    return ["", *mentioned, *sorted([*known, *new], key=word_number)]


class Choice:
    """What was chosen for a case so far: for each term and set the earliest value that was left.

    The clusters say what was chosen, too, and can be met.
    """

    def __init__(self, mentioned, clusters):
        self.clusters = clusters
        self.stock = _stock_for(mentioned, clusters)

    def first_word(self):
        """The first of all words in the stock order."""
        return self.stock[1]

    def least_word(self, term):
        """Chooses the earliest word or blank for the term."""
        tried_new = False
        for word in self.stock:
            known = ("name", word) in self.clusters.leaders
            # The words that nothing mentions are all alike: the earliest speaks for the others.
            if known or not tried_new:
                tried_new = tried_new or not known
                if self.choose(term, word):
                    return word
        return None

    def choose(self, term, word):
        """Chooses the word or blank for the term if that is possible; returns whether it is."""
        leader = self.clusters.leaders[term]
        if leader in self.clusters.words:
            return self.clusters.words[leader] == word
        if not self.clusters.may_be(leader, word):
            return False
        trial = self.clusters.copied()
        trial.meet(("name", word))
        trial.unite(("name", word), leader)
        return self._accept(trial)

    def _accept(self, trial):
        if can_be_met(trial):
            self.clusters = trial
            return True
        return False

    def least_set(self, field):
        """Chooses the earliest set for the field, a list; all terms have their words already."""
        end = len(self.stock)
        members = self._members_of(field)
        while not self._accept(self._limited(field, members)):
            # The last of the words that must be allowed is a member, and no later one is.
            end = self._last_needed(field, members, end)
            self.clusters.meet(("name", self.stock[end]))
            self.clusters.enter(("name", self.stock[end]), field)
            members = self._members_of(field)
        return members

    def _members_of(self, field):
        """The words that are known to be in the set."""
        inside, words = self.clusters.inside, self.clusters.words
        return [words[leader] for leader in words if field in inside[leader]]

    def _limited(self, field, words):
        trial = self.clusters.copied()
        trial.keep_within(field, words)
        return trial

    def _last_needed(self, field, members, end):
        """The place in the stock up to which words must be allowed beside the members."""
        allowed = list(members)
        for place in range(1, end):
            word = self.stock[place]
            if word not in members and self._may_enter(word, field):
                allowed.append(word)
                if can_be_met(self._limited(field, allowed)):
                    return place
        return end

    def _may_enter(self, word, field):
        trial = self.clusters.copied()
        trial.meet(("name", word))
        trial.enter(("name", word), field)
        return not trial.broken
