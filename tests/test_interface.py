"""The names, arguments and places of the interface in DOC.md."""
import importlib
import inspect
import unittest

# module: {name: arguments as inspect.signature shows them}
FUNCTIONS = {
    "words": {
        "is_word": "(text)", "word_number": "(word)", "word_at": "(number)",
        "stock_place": "(mentioned, word)", "fresh_words": "(mentioned, count)",
    },
    "requests": {
        "make_request": "(*, words=(), paths=(), sets=(), numbers=())",
        "word_of": "(request, field)", "part_of": "(request, field, index)",
        "members_of": "(request, field)", "number_of": "(request, field)",
        "compare_requests": "(mentioned, one, other)",
    },
    "terms": {"value_of": "(term, request)"},
    "conditions": {
        "check_condition": "(condition)", "is_primitive": "(condition)",
        "holds": "(condition, request, directory=None)",
    },
    "writing": {"write_condition": "(condition)", "write_book": "(book)"},
    "reading": {"read_condition": "(text)", "read_book": "(text)"},
    "rules": {
        "check_rule": "(rule)", "applying": "(rules, request, directory=None)",
        "decide": "(rules, request, directory=None)",
    },
    "index": {"needed_pairs": "(condition)"},
    "bounds": {
        "bound_of": "(literal)", "is_ring": "(literals)", "find_ring": "(literals)",
        "nearest_numbers": "(literals, fields)",
    },
    "sameness": {"facts_of": "(case, steps)", "is_closed": "(case, steps)", "find_steps": "(case)"},
    "models": {"is_possible": "(case)", "least_model": "(mentioned, case)"},
    "views": {
        "compiled": "(condition, directory)", "view_of": "(rules, directory)",
        "mentioned_words": "(left, right, where)", "question_atoms": "(left, right, where)",
    },
    "guesses": {"guess": "(condition, case)", "sure_verdict": "(view, case)"},
    "papers": {"judge": "(left, right, where, paper)"},
    "trimming": {"trimmed": "(left, right, where, paper)"},
    "ordering": {"question_cells": "(left, right, where)", "earlier_than": "(left, right, where, request)"},
    "comparing": {"compare": "(left, right, *, where=('true',))"},
    "plainly": {
        "number_bound": "(left, right, where)", "box": "(left, right, where)", "first_answer": "(left, right, where)",
    },
    "uses": {
        "newly_permitted": "(old, new)", "same_view": "(one, two)", "lean": "(view)", "shows_at": "(view, name)",
        "least_permitted": "(view, where)", "meeting": "(view, one, two)",
    },
    "reaching": {"reach_of": "(house)", "way_in": "(house, request)", "first_let_in": "(house)"},
    "atoms": {"is_atom": "(atom)", "literal_of": "(condition)", "makes_true": "(request, literal)"},
}

# module: {class: (arguments, {method: arguments})}
CLASSES = {
    "directory": {
        "Directory": ("(links=())", {
            "join": "(self, member, group)", "leave": "(self, member, group)",
            "belongs": "(self, word, group)", "ways": "(self, word, group)",
            "members": "(self, group)", "groups": "(self, word)", "links": "(self)",
        }),
    },
    "grants": {
        "Grants": ("(records=())", {
            "give": "(self, receiver, condition, passes)", "pass_on": "(self, number, receiver, condition)",
            "revoke": "(self, number)", "standing": "(self)", "chain": "(self, number)", "rules": "(self)",
            "records": "(self)",
        }),
    },
    "house": {
        "House": ("(rules=(), links=(), *, guarded=False)", {
            "do": "(self, deed)", "ask": "(self, request)", "rules": "(self)", "view": "(self)", "state": "(self)",
            "kept": "(self)",
        }),
    },
    "index": {
        "Index": ("(rules=())", {
            "put": "(self, rule)", "drop": "(self, name)", "found": "(self, request)",
            "decide": "(self, request, directory=None)",
        }),
    },
}


class InterfaceTest(unittest.TestCase):
    def test_functions(self):
        for module, names in FUNCTIONS.items():
            there = importlib.import_module("whomaywhat." + module)
            for name, arguments in names.items():
                with self.subTest(module=module, name=name):
                    function = getattr(there, name)
                    self.assertTrue(inspect.isfunction(function))
                    self.assertEqual(function.__module__, "whomaywhat." + module)
                    self.assertEqual(str(inspect.signature(function)), arguments)

    def test_classes(self):
        for module, names in CLASSES.items():
            there = importlib.import_module("whomaywhat." + module)
            for name, (arguments, methods) in names.items():
                with self.subTest(module=module, name=name):
                    kind = getattr(there, name)
                    self.assertTrue(inspect.isclass(kind))
                    self.assertEqual(kind.__module__, "whomaywhat." + module)
                    self.assertEqual(str(inspect.signature(kind)), arguments)
                for method, told in methods.items():
                    with self.subTest(module=module, name=name, method=method):
                        self.assertEqual(str(inspect.signature(kind.__dict__[method])), told)

    def test_properties(self):
        there = importlib.import_module("whomaywhat.house")
        self.assertIsInstance(there.House.__dict__["guarded"], property)

    def test_arguments_by_name(self):
        house = importlib.import_module("whomaywhat.house").House(guarded=True, links=[("a", "b")], rules=())
        self.assertEqual((house.guarded, house.state()), (True, ((), (("a", "b"),), ())))
        compare = importlib.import_module("whomaywhat.comparing").compare
        self.assertEqual(compare((), (), where=("false",))[0], "none")
        for wrong in (
            lambda: compare((), (), ("true",)),
            lambda: importlib.import_module("whomaywhat.house").House((), (), True),
        ):
            with self.assertRaises(TypeError):
                wrong()


if __name__ == "__main__":
    unittest.main()
