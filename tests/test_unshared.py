"""Point [2]: nothing that was passed or returned is shared, and no argument is modified."""
import copy
import unittest

from questions import BLANK, OWNER, WHO, YES, name
from whomaywhat.comparing import compare
from whomaywhat.directory import Directory
from whomaywhat.grants import Grants
from whomaywhat.guesses import guess, sure_verdict
from whomaywhat.house import House
from whomaywhat.index import Index, needed_pairs
from whomaywhat.ordering import earlier_than, question_cells
from whomaywhat.papers import judge
from whomaywhat.plainly import box
from whomaywhat.reaching import first_let_in, reach_of, way_in
from whomaywhat.requests import make_request
from whomaywhat.rules import applying, decide
from whomaywhat.sameness import facts_of
from whomaywhat.trimming import trimmed
from whomaywhat.uses import lean
from whomaywhat.views import view_of
from whomaywhat.words import fresh_words

RULES = [
    ("b", "permit", 0, ("member", WHO, "staff")), ("a", "forbid", 1, ("is", WHO, name("bob"))),
    ("c", "permit", 0, ("all", (("in", WHO, "s"), ("most", "size", "", 9)))),
]
LINKS = [("ann", "dev"), ("dev", "staff")]
ANN = make_request(words=[("who", "ann")])


def frozen(value):
    """Whether the value has no part that could be changed."""
    if type(value) is tuple:
        return all(frozen(item) for item in value)
    return value is None or type(value) in (str, int, bool)


class ArgumentsTest(unittest.TestCase):
    def test_a_house(self):
        rules, links = list(RULES), list(LINKS)
        house, twin = House(rules, links), House(tuple(RULES), tuple(LINKS))
        self.assertEqual((rules, links), (RULES, LINKS))
        house.do(("set", ("d", "permit", 0, YES)))
        house.do(("leave", "ann", "dev"))
        self.assertEqual((rules, links), (RULES, LINKS))
        house.do(("undo",))
        house.do(("undo",))
        rules.clear()
        links.append(("x", "y"))
        rules.append(("z", "permit", 5, YES))
        self.assertEqual(house.state(), twin.state())
        self.assertEqual(house.ask(ANN), twin.ask(ANN))
        self.assertEqual(house.view(), twin.view())

    def test_a_directory(self):
        links = list(LINKS)
        directory = Directory(links)
        directory.join("bob", "dev")
        directory.leave("ann", "dev")
        self.assertEqual(links, LINKS)
        links.clear()
        self.assertEqual(directory.links(), (("bob", "dev"), ("dev", "staff")))
        self.assertEqual(directory.members("staff"), ("bob", "dev"))

    def test_grants(self):
        first = Grants()
        first.give("ann", YES, 2)
        records = list(first.records())
        before = copy.deepcopy(records)
        second = Grants(records)
        second.pass_on(1, "bob", YES)
        second.revoke(1)
        self.assertEqual(records, before)
        self.assertEqual(first.records(), tuple(before))
        records.clear()
        self.assertEqual(len(second.records()), 2)

    def test_an_index(self):
        rules = list(RULES)
        index = Index(rules)
        index.put(("d", "permit", 0, YES))
        index.drop("a")
        self.assertEqual(rules, RULES)
        rules.clear()
        self.assertEqual(index.found(ANN), ("b", "c", "d"))

    def test_sets_of_rules(self):
        rules = list(RULES)
        directory = Directory(LINKS)
        for function in (
            lambda: decide(rules, ANN, directory), lambda: applying(rules, ANN, directory),
            lambda: view_of(rules, directory),
        ):
            expected = function()
            rules.reverse()
            self.assertEqual(function(), expected)
            rules.reverse()
        self.assertEqual(rules, RULES)
        self.assertEqual(directory.links(), tuple(LINKS))

    def test_requests(self):
        tags, parts, words = ["b", "a"], ["x", "y"], [("who", "ann")]
        request = make_request(words=words, paths=[("p", parts)], sets=[("tags", tags)], numbers=[])
        tags.append("c")
        parts.clear()
        words.clear()
        self.assertEqual(request, ((("who", "ann"),), (("p", ("x", "y")),), (("tags", ("a", "b")),), ()))
        self.assertEqual(tags, ["b", "a", "c"])


class ResultsTest(unittest.TestCase):
    def test_lists_that_were_returned(self):
        words = fresh_words((), 3)
        words.append("zoe")
        self.assertEqual(fresh_words((), 3), ["a", "b", "c"])
        case = ((("is", WHO, BLANK), True),)
        facts = facts_of(case, (("given", case[0]),))
        facts.clear()
        self.assertEqual(facts_of(case, (("given", case[0]),)), [case[0]])

    def test_results_cannot_be_changed(self):
        view = view_of(RULES, Directory(LINKS))
        house = House(RULES, LINKS)
        house.do(("give", "ann", ("most", "size", "", 5), 2))
        house.ask(ANN)
        other = make_request(words=[("who", "cid")])
        results = [
            view, house.state(), house.rules(), house.view(), house.kept(), house.ask(ANN), reach_of(house),
            way_in(house, other),
            first_let_in(house), compare(view, ()), compare((), view), compare(view, (), where=("in", OWNER, "s")),
            lean(view),
            question_cells(view, (), YES), earlier_than(view, (), YES, ANN), needed_pairs(RULES[1][3]),
            *list(box(view[:1], (), YES)),
        ]
        for result in results:
            self.assertIs(frozen(result), True, result)
        self.assertEqual(way_in(house, other), ("pass", 1, "cid", YES))

    def test_papers_may_be_lists_as_well(self):
        """The functions that take papers and cases leave them as they are."""
        view = view_of(RULES, Directory(LINKS))
        kind, paper = compare(view, view)
        self.assertEqual(kind, "none")
        before = copy.deepcopy(paper)
        self.assertIs(judge(view, view, YES, paper), True)
        trimmed(view, view, YES, paper)
        self.assertEqual(paper, before)
        case = (paper[0][1], True), (paper[0][1], False)
        guess(view[0][3], case)
        sure_verdict(view, case)
        self.assertEqual(case, ((paper[0][1], True), (paper[0][1], False)))

    def test_views_stay_when_the_house_changes(self):
        house = House(RULES, LINKS)
        view, state, rules, reach = house.view(), house.state(), house.rules(), reach_of(house)
        kept = house.kept()
        told = copy.deepcopy((view, state, rules, reach, kept))
        house.ask(ANN)
        house.do(("give", "ann", YES, 1))
        house.do(("leave", "ann", "dev"))
        house.do(("drop", "a"))
        self.assertEqual((view, state, rules, reach, kept), told)


if __name__ == "__main__":
    unittest.main()
