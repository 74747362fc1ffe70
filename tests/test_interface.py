"""The interface: names, arguments and defaults, each defined in the file under which it is listed."""

import importlib
import inspect
import unittest

FUNCTIONS = {
    "marks": ["is_whole(thing, low, high)", "is_name(thing)", "is_letter(thing)", "is_spot(thing)",
              "letter_rank(letter)", "normal_letter(number)", "number_in(thing, *, low=0, high=9999)",
              "words_in(thing)", "rows_in(thing)"],
    "signs": [],
    "terms": ["term_of(words, text)", "ahead(one, other)", "variants(one, other)", "in_order(terms, *, falling=False)"],
    "puttings": ["matched(ask, kept, *, within=None)", "meeting(one, other)",
                 "shows_meeting(one, other, whole, left, right)"],
    "apart": ["why_apart(one, other)", "shows_apart(one, other, thing)", "first_wrong(one, other, rows)"],
    "nomatch": ["why_unlike(ask, kept)", "shows_unlike(ask, kept, thing)", "why_no_variant(one, other)",
                "shows_no_variant(one, other, thing)", "why_not(way, ask, kept)", "shows_not(way, ask, kept, thing)"],
    "answers": ["answer_of(way, ask, kept, notes)"],
}
SHOWN = ["__eq__(self, other)", "__str__(self)", "__repr__(self)"]
CLASSES = {
    ("signs", "Words(rows)"): ["names(self)", "places(self, name)", "place_of(self, name)", "has(self, thing)",
                               "__len__(self)"] + SHOWN,
    ("terms", "Term(words, signs, *, most=100)"): [
        "words(self)", "signs(self)", "head(self)", "parts(self)", "spots(self)", "deep(self)", "letters(self)",
        "part_at(self, spot)", "head_at(self, spot)", "with_part(self, spot, term)", "normal(self)", "is_normal(self)",
        "rank(self)", "__len__(self)"] + SHOWN,
    ("puttings", "Putting(words, pairs=None)"): [
        "words(self)", "letters(self)", "given(self, letter)", "put(self, term)", "then(self, other)",
        "__len__(self)"] + SHOWN,
    ("answers", "Answer"): ["kept(self)", "notes(self)", "asked(self)", "keeping(self)", "whole(self)"] + SHOWN,
}
VALUES = {("marks", "MOST_PLAIN"): 9999, ("terms", "MOST_SIGNS"): 100}


def module_of(name):
    return importlib.import_module("termshelf." + name)


class Interface(unittest.TestCase):
    def test_functions(self):
        for name, rows in FUNCTIONS.items():
            for row in rows:
                told = getattr(module_of(name), row.split("(")[0])
                self.assertTrue(inspect.isfunction(told))
                self.assertEqual(told.__name__ + str(inspect.signature(told)), row)
                self.assertEqual(told.__module__, "termshelf." + name)

    def test_classes_and_their_methods(self):
        for (name, row), methods in CLASSES.items():
            told = getattr(module_of(name), row.split("(")[0])
            self.assertTrue(inspect.isclass(told))
            self.assertEqual(told.__module__, "termshelf." + name)
            if "(" in row:
                self.assertEqual(told.__name__ + str(inspect.signature(told)), row)
            for method in methods:
                own = vars(told)[method.split("(")[0]]
                self.assertEqual(own.__name__ + str(inspect.signature(own)), method)

    def test_values(self):
        for (name, value), told in VALUES.items():
            self.assertEqual(getattr(module_of(name), value), told)


if __name__ == "__main__":
    unittest.main()
