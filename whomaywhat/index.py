"""An index of rules by the words that their conditions need."""

from whomaywhat.errors import NoRule
from whomaywhat.rules import decision_by, rules_that_apply
from whomaywhat.terms import BLANK, value_of


def needed_pairs(condition):
    """The pairs of a term and a word that the condition needs, a tuple in ascending order."""
    return tuple(sorted(set(_pairs_of(condition))))


def _pairs_of(condition):
    """The needed pairs in any order, perhaps with duplicates."""
    kind = condition[0]
    if kind == "is":
        return _pairs_of_is(condition[1], condition[2])
    if kind == "under":
        return _pairs_of_template(condition[1], condition[2])
    if kind == "at":
        # Only the part behind the template is blank: the path ends where the template ends.
        return _pairs_of_template(condition[1], (*condition[2], BLANK))
    if kind == "all":
        return [pair for inner in condition[1] for pair in _pairs_of(inner)]
    if kind == "any":
        return _pairs_of_each(condition[1])
    return []


def _pairs_of_is(one, other):
    if one[0] == "name" and other[0] != "name":
        return [(other, one[1])]
    if one[0] != "name" and other[0] == "name":
        return [(one, other[1])]
    return []


def _pairs_of_template(field, terms):
    return [(("part", field, index), term[1]) for index, term in enumerate(terms) if term[0] == "name"]


def _pairs_of_each(conditions):
    if len(conditions) == 0:
        return []
    first, *others = [_pairs_of(inner) for inner in conditions]
    return [pair for pair in first if all(pair in pairs for pairs in others)]


class Index:
    """Rules, each filed under the least pair that its condition needs, or under no pair."""

    def __init__(self, rules=()):
        self._rules = {}
        self._pairs = {}
        # For each term and each word the names that are filed under this pair.
        self._filed = {}
        self._unfiled = {}
        for rule in rules:
            self.put(rule)

    def put(self, rule):
        """Files the rule, in the place of the one of the same name if there is one."""
        name = rule[0]
        if name in self._rules:
            self.drop(name)
        self._rules[name] = rule
        pairs = needed_pairs(rule[3])
        if len(pairs) == 0:
            self._unfiled[name] = True
            return
        term, word = pairs[0]
        self._pairs[name] = pairs[0]
        filed = self._filed.setdefault(term, {}).setdefault(word, {})
        filed[name] = True

    def drop(self, name):
        """Removes the rule of this name."""
        if name not in self._rules:
            raise NoRule(f"no rule is called {name!r}")
        del self._rules[name]
        if name in self._unfiled:
            del self._unfiled[name]
            return
        term, word = self._pairs.pop(name)
        del self._filed[term][word][name]

    def found(self, request):
        """The names of the rules that may apply to the request, a tuple in alphabetical order."""
        names = list(self._unfiled)
        for term, filed in self._filed.items():
            names.extend(list(filed.get(value_of(term, request), {})))
        return tuple(sorted(names))

    def decide(self, request, directory=None):
        """The decision on the request by the rules that the index finds."""
        rules = [self._rules[name] for name in self.found(request)]
        return decision_by(rules_that_apply(rules, request, directory))
