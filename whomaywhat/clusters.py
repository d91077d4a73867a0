"""Clusters: the terms of a plain case, sorted by which must stand for the same word.

A case of words and sets is met if each cluster can have a word, or the blank, that no other has.
A cluster that is in no listed set can always have a word that nothing else mentions. So only the
clusters in listed sets are tried with one word after the other.
"""

from whomaywhat.atoms import listed_words, terms_of
from whomaywhat.terms import BLANK


def clusters_of(case):
    """What the "is", "in" and "within" literals of a plain case say."""
    clusters = Clusters(_fields_above(case), _lists_of(case))
    # A part is known before it may turn out that the path ends in front of it.
    for term in _terms_in(case):
        clusters.meet(term)
    for atom, truth in case:
        _tell(clusters, atom, truth)
    return clusters


def _fields_above(case):
    """For each set field all fields whose sets have at least its members, itself included."""
    direct = {}
    for atom, truth in case:
        kind, field, target = atom[:3]
        if kind == "within" and truth and target[0] == "set":
            direct.setdefault(field, []).append(target[1])
    return {field: _reached(direct, field) for field in direct}


def _reached(direct, start):
    reached = [start]
    at = 0
    while at < len(reached):
        reached.extend([field for field in direct.get(reached[at], []) if field not in reached])
        at += 1
    return tuple(reached)


def _lists_of(case):
    """For each set field the lists that it is within, each a dict with the listed words as keys."""
    lists = {}
    for atom, truth in case:
        kind, field, target = atom[:3]
        if kind == "within" and truth and target[0] == "names":
            lists[field] = (*lists.get(field, ()), {word: True for word in target[1]})
    return lists


def _terms_in(case):
    terms = []
    for atom, _ in case:
        terms.extend(terms_of(atom))
        terms.extend([("name", word) for word in listed_words(atom)])
    return terms


def _tell(clusters, atom, truth):
    kind, one, other = atom[:3]
    if kind == "is" and truth:
        clusters.unite(one, other)
    elif kind == "is":
        clusters.differ(one, other)
    elif kind == "in" and truth:
        clusters.enter(one, other)
    elif kind == "in":
        clusters.stay_out(one, other)
    elif kind == "within" and not truth:
        _tell_of_witness(clusters, one, other)


def _tell_of_witness(clusters, field, target):
    """Some word is in the set and not in the target; the "other" term stands for any such word."""
    witness = ("other", field, target)
    clusters.meet(witness)
    clusters.enter(witness, field)
    if target[0] == "set":
        clusters.stay_out(witness, target[1])
        return
    for word in target[1]:
        clusters.differ(witness, ("name", word))


def can_be_met(clusters):
    """True if each cluster can have a word, or the blank, that no other has."""
    if clusters.broken:
        return False
    leader, words = clusters.narrowest()
    if leader is None:
        return True
    for word in words:
        trial = clusters.copied()
        trial.unite(("name", word), leader)
        if can_be_met(trial):
            return True
    return False


class Clusters:
    """Clusters of terms; each is spoken of by its leader, one of its terms.

    It is broken if no request meets the case for a reason that shows without trying words. The
    dicts that belong to one leader are replaced, never changed: copies share them.
    """

    def __init__(self, above, lists):
        self.broken = False
        self.above = above
        self.lists = lists
        self.leaders = {}
        self.followers = {}
        self.words = {}
        # For each leader the set fields in which it is and is not, and the leaders that differ.
        self.inside = {}
        self.outside = {}
        self.apart = {}
        self.meet(BLANK)

    def copied(self):
        """A copy that can be changed while this one stays as it is."""
        twin = Clusters(self.above, {field: self.lists[field] for field in self.lists})
        twin.broken = self.broken
        twin.leaders = {term: self.leaders[term] for term in self.leaders}
        twin.followers = {term: self.followers[term] for term in self.followers}
        twin.words = {term: self.words[term] for term in self.words}
        twin.inside = {term: self.inside[term] for term in self.inside}
        twin.outside = {term: self.outside[term] for term in self.outside}
        twin.apart = {term: self.apart[term] for term in self.apart}
        return twin

    def meet(self, term):
        """Makes the term known; a new one has a cluster of its own."""
        if term in self.leaders:
            return
        self.leaders[term] = term
        self.followers[term] = (term,)
        if term[0] == "name":
            self.words[term] = term[1]
        self.inside[term] = {}
        self.outside[term] = {}
        self.apart[term] = {}

    def unite(self, one, other):
        """The two terms stand for the same word."""
        waiting = [(one, other)]
        while waiting and not self.broken:
            first, second = waiting.pop()
            keep, gone = self.leaders[first], self.leaders[second]
            if keep != gone:
                self._unite_leaders(keep, gone)
                waiting.extend(self._parts_behind_ends(keep))

    def _unite_leaders(self, keep, gone):
        if gone in self.apart[keep] or (keep in self.words and gone in self.words):
            self.broken = True
            return
        for term in self.followers[gone]:
            self.leaders[term] = keep
        self.followers[keep] = self.followers[keep] + self.followers.pop(gone)
        if gone in self.words:
            self.words[keep] = self.words.pop(gone)
        self.inside[keep] = {**self.inside[keep], **self.inside.pop(gone)}
        self.outside[keep] = {**self.outside[keep], **self.outside.pop(gone)}
        others = self.apart.pop(gone)
        for far in others:
            self.apart[far] = {near: True for near in self.apart[far] if near != gone}
            self._set_apart(keep, far)
        self._check(keep)

    def _parts_behind_ends(self, leader):
        """Pairs that are to be united because no path goes on behind a blank part."""
        if self.words.get(leader) != "":
            return []
        ends = {}
        for term in self.followers[leader]:
            if term[0] == "part":
                ends[term[1]] = min(term[2], ends.get(term[1], term[2]))
        parts = [term for term in self.leaders if term[0] == "part" and term[1] in ends]
        return [(leader, term) for term in parts if term[2] > ends[term[1]] and self.leaders[term] != leader]

    def differ(self, one, other):
        """The two terms do not stand for the same word."""
        if self.leaders[one] == self.leaders[other]:
            self.broken = True
        else:
            self._set_apart(self.leaders[one], self.leaders[other])

    def _set_apart(self, one, other):
        self.apart[one] = {**self.apart[one], other: True}
        self.apart[other] = {**self.apart[other], one: True}

    def enter(self, term, field):
        """The term stands for a member of the set."""
        leader = self.leaders[term]
        fields = self.above.get(field, (field,))
        self.inside[leader] = {**self.inside[leader], **{upper: True for upper in fields}}
        self._check(leader)

    def stay_out(self, term, field):
        """The term does not stand for a member of the set."""
        leader = self.leaders[term]
        self.outside[leader] = {**self.outside[leader], field: True}
        self._check(leader)

    def keep_within(self, field, words):
        """The set has no members but these words; those that are known to be in it are among them."""
        for word in words:
            self.meet(("name", word))
        self.lists[field] = (*self.lists.get(field, ()), {word: True for word in words})

    def _check(self, leader):
        """Finds out whether the cluster can be as it is."""
        if any(field in self.outside[leader] for field in self.inside[leader]):
            self.broken = True
        if leader in self.words and self.inside[leader]:
            word = self.words[leader]
            if word == "" or not all(word in listed for listed in self._lists_around(leader)):
                self.broken = True

    def _lists_around(self, leader):
        """The lists in which the word of the cluster must be."""
        return [listed for field in self.inside[leader] for listed in self.lists.get(field, ())]

    def may_be(self, leader, word):
        """False if it shows at once that the cluster cannot have the word or blank."""
        own = self.leaders.get(("name", word))
        if own is None:
            return True
        if own in self.apart[leader] or any(field in self.outside[leader] for field in self.inside[own]):
            return False
        return not any(field in self.outside[own] for field in self.inside[leader])

    def narrowest(self):
        """The cluster in listed sets with the fewest words to try, and these words.

        The leader is None if each cluster in listed sets has its word.
        """
        best, fewest = None, []
        for leader in self.inside:
            if leader not in self.words:
                lists = self._lists_around(leader)
                if lists:
                    words = self._words_for(leader, lists)
                    if best is None or len(words) < len(fewest):
                        best, fewest = leader, words
        return best, self._worth_trying(best, fewest)

    def untold_word(self):
        """A term in a listed set, and a listed word that it may be or not be by what is told.

        The case is not possible, but not broken, and the search for steps did not close it.
        """
        leader = self.narrowest()[0]
        shortest = min(self._lists_around(leader), key=len)
        for word in shortest:
            if self.leaders[("name", word)] not in self.apart[leader]:
                return leader, word
        return None

    def _words_for(self, leader, lists):
        shortest = min(lists, key=len)
        return [word for word in shortest if self.may_be(leader, word) and all(word in listed for listed in lists)]

    def _worth_trying(self, leader, words):
        """The words without those that can be no better than another one of them."""
        if len(words) < 2:
            return words
        kinds = {}
        for word in words:
            own = self.leaders[("name", word)]
            if self._adds_nothing(leader, own):
                return [word]
            kinds.setdefault(self._kind_of(own, word), word)
        return list(kinds.values())

    def _adds_nothing(self, leader, own):
        """True if all that holds for the cluster holds for the one of the word already."""
        if any(field not in self.inside[own] for field in self.inside[leader]):
            return False
        if any(field not in self.outside[own] for field in self.outside[leader]):
            return False
        # The clusters of other words are different from this one anyway.
        return all(far in self.words or far in self.apart[own] for far in self.apart[leader])

    def _kind_of(self, own, word):
        """What is equal for two words only if they can change places in everything else."""
        lists = [
            (field, place)
            for field in self.lists for place, listed in enumerate(self.lists[field]) if word in listed
        ]
        others = [far for far in self.apart[own] if far not in self.words]
        return (
            tuple(sorted(self.inside[own])), tuple(sorted(self.outside[own])), tuple(sorted(others)), tuple(lists),
        )
