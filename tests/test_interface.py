"""The names of the document's interface, their arguments and where they lie."""

import unittest
from importlib import import_module
from inspect import isclass, isfunction, signature

FUNCTIONS = {
    "rows": {"behind": ["one", "other"], "back": ["row"], "wrong": ["row"]},
    "rings": {"rings": ["row"], "of_rings": ["many", "told"], "times": ["row", "number"], "turns": ["row"]},
    "least": {"exchanged": ["row"], "fronted": ["row"], "ended": ["row"], "put": ["row"]},
    "texts": {"written": ["row"], "read": ["text"]},
}
ANSWERS = {"Exchanged": ["pairs", "rings"], "Fronted": ["things"], "Ended": ["moves"], "Put": ["moves", "falls"]}
ERRORS = ["OrderError", "BadRow", "BadNumber", "BadRings", "Unlike", "BadText"]


class Interface(unittest.TestCase):
    def test_functions(self):
        for module, functions in FUNCTIONS.items():
            for name, arguments in functions.items():
                function = getattr(import_module("backorder." + module), name)
                self.assertTrue(isfunction(function), name)
                self.assertEqual(list(signature(function).parameters), arguments, name)

    def test_answers(self):
        answers = import_module("backorder.answers")
        self.assertTrue(isclass(answers.Answer))
        for name, told in ANSWERS.items():
            made = getattr(answers, name)
            self.assertTrue(isclass(made), name)
            self.assertEqual(list(signature(made).parameters), told, name)
            self.assertEqual(list(signature(made.shows).parameters), ["self", "row"], name)

    def test_errors(self):
        errors = import_module("backorder.errors")
        for name in ERRORS:
            self.assertTrue(issubclass(getattr(errors, name), ValueError), name)


if __name__ == "__main__":
    unittest.main()
