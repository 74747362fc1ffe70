"""The interface: names, arguments and defaults, each defined in the file under which it is listed."""

import importlib
import inspect
import unittest

FUNCTIONS = {
    "marks": ["is_whole(thing, low, high)", "is_name(thing)", "is_letter(thing)", "is_spot(thing)",
              "letter_rank(letter)", "normal_letter(number)", "number_in(thing, *, low=0, high=9999)",
              "words_in(thing)", "rows_in(thing)"],
    "signs": [],
    "terms": ["term_of(words, text)", "ahead(one, other)", "variants(one, other)", "in_order(terms, *, falling=False)"],
    "puttings": ["matched(ask, kept, *, within=None)", "meeting(one, other)",
                 "shows_meeting(one, other, whole, left, right)"],
    "apart": ["why_apart(one, other)", "shows_apart(one, other, thing)", "first_wrong(one, other, rows)"],
    "nomatch": ["why_unlike(ask, kept)", "shows_unlike(ask, kept, thing)", "why_no_variant(one, other)",
                "shows_no_variant(one, other, thing)", "why_not(way, ask, kept)", "shows_not(way, ask, kept, thing)"],
    "answers": ["answer_of(way, ask, kept, notes)"],
    "puttree": ["is_pattern(words, thing)", "fits(pattern, term)", "common_part(terms)",
                "filled(words, pattern, fills)"],
    "putbars": ["bar_of(words, pattern, way, term)", "shows_bar(words, pattern, way, term, thing)"],
    "handing": ["teller(shelf, way, *, limit=None)"],
    "joined": ["told_by(shelf, ask)", "pushed(ask)", "why_told(shelf, term, ask)"],
    "rewriting": ["steps_of(rules, term, *, only=None)", "first_step(rules, term, *, only=None)",
                  "rewritten(rules, term, *, most=50, only=None)", "normal_of(rules, term, *, most=50)",
                  "shows_rows(rules, term, thing)", "plain_rewritten(rows, term, *, most=50)"],
    "meetings": ["meetings(rules)", "plain_meetings(rows)", "shows_met(rules, thing)",
                 "joins(rules, thing, *, most=50)"],
    "covers": ["covers(words, one, other)", "no_cover(words, one, other)", "shows_no_cover(words, one, other, thing)",
               "shows_cover(words, one, other, putting, places)", "uncovered(words, rows)"],
    "cutting": ["root_of(term)", "cut(shelf)", "joined(shelves, *, kind='plain', most=40)",
                "roots_for(parts, way, term)", "asked_of(parts, way, term, *, limit=None)", "unlike_terms(one, other)"],
    "shelftext": ["shelf_text(shelf)", "shelf_of(text)"],
    "desklines": ["is_line(thing)"],
}
SHOWN = ["__eq__(self, other)", "__str__(self)", "__repr__(self)"]
KIND = ["index_put(self, term)", "index_take(self, term)", "empty_one(self)", "candidates(self, way, term)",
        "walk(self, way, term)", "steps(self, way, term)"]
CLASSES = {
    ("signs", "Words(rows)"): ["names(self)", "places(self, name)", "place_of(self, name)", "has(self, thing)",
                               "__len__(self)"] + SHOWN,
    ("terms", "Term(words, signs, *, most=100)"): [
        "words(self)", "signs(self)", "head(self)", "parts(self)", "spots(self)", "deep(self)", "letters(self)",
        "part_at(self, spot)", "head_at(self, spot)", "with_part(self, spot, term)", "normal(self)", "is_normal(self)",
        "rank(self)", "__len__(self)"] + SHOWN,
    ("puttings", "Putting(words, pairs=None)"): [
        "words(self)", "letters(self)", "given(self, letter)", "put(self, term)", "then(self, other)",
        "__len__(self)"] + SHOWN,
    ("answers", "Answer"): ["kept(self)", "notes(self)", "asked(self)", "keeping(self)", "whole(self)"] + SHOWN,
    ("shelves", "Shelf(words, *, most=40)"): [
        "put(self, term, note)", "take(self, term, note)", "words(self)", "most(self)", "terms(self)",
        "notes(self, term)", "has(self, term)", "changes(self)", "__len__(self)", "copied(self)",
        "ask(self, way, term, *, limit=None)",
        "barred(self, way, term)", "need_ask(self, way, term)", "all_deeds(self, rows)", "log(self)"] + KIND + SHOWN,
    ("shelves", "PlainShelf(words, *, most=40)"): KIND,
    ("signtree", "SignTree(words, terms=())"): [
        "put(self, term)", "take(self, term)", "nodes(self)", "has_node(self, thing)", "terms(self)",
        "beneath(self, path)", "count_beneath(self, path)", "jumps(self, path)", "nested(self)", "__len__(self)",
        "walk(self, way, term)",
        "ends(self, way, term)"] + SHOWN,
    ("signshelf", "SignShelf(words, *, most=40)"): KIND + ["tree(self)"],
    ("puttree", "PutNode(terms)"): [
        "words(self)", "terms(self)", "pattern(self)", "children(self)", "__len__(self)", "fills(self, number)",
        "node_at(self, path)"] + SHOWN,
    ("putshelf", "PutShelf(words, *, most=40)"): KIND + ["tree(self)", "nodes(self)"],
    ("handing", "Handing(shelf, way, term, *, steady=True)"): [
        "more(self)", "left(self)", "given(self)", "rest(self)", "begin_anew(self)"],
    ("rules", "Rule(left, right)"): ["words(self)", "left(self)", "right(self)", "normal(self)",
                                     "rewritten_at(self, term, spot)"] + SHOWN,
    ("rules", "Rules(words, *, by='plain')"): [
        "put(self, rule)", "drop(self, number)", "put_all(self, rules)", "log(self)", "words(self)", "rules(self)",
        "rule_of(self, number)", "shelf(self)", "__len__(self)"] + SHOWN,
    ("desk", "Desk(words, *, most=6)"): [
        "say(self, line)", "say_all(self, lines)", "names(self)", "hands(self)", "shelf(self, name)", "busy(self)",
        "done(self)", "log(self)"],
}
VALUES = {("marks", "MOST_PLAIN"): 9999, ("terms", "MOST_SIGNS"): 100, ("shelves", "MOST_KEPT"): 40,
          ("puttree", "HOLE"): "?", ("rules", "MOST_RULES"): 40, ("rewriting", "MOST_STEPS"): 50,
          ("meetings", "MOST_STEPS"): 50, ("cutting", "KINDS"): ("plain", "signs", "puttings"),
          ("desk", "MOST_SHELVES"): 6}


def module_of(name):
    return importlib.import_module("termshelf." + name)


class Interface(unittest.TestCase):
    def test_functions(self):
        for name, rows in FUNCTIONS.items():
            for row in rows:
                told = getattr(module_of(name), row.split("(")[0])
                self.assertTrue(inspect.isfunction(told))
                self.assertEqual(told.__name__ + str(inspect.signature(told)), row)
                self.assertEqual(told.__module__, "termshelf." + name)

    def test_classes_and_their_methods(self):
        for (name, row), methods in CLASSES.items():
            told = getattr(module_of(name), row.split("(")[0])
            self.assertTrue(inspect.isclass(told))
            self.assertEqual(told.__module__, "termshelf." + name)
            if "(" in row:
                self.assertEqual(told.__name__ + str(inspect.signature(told)), row)
            for method in methods:
                own = vars(told)[method.split("(")[0]]
                self.assertEqual(own.__name__ + str(inspect.signature(own)), method)

    def test_values(self):
        for (name, value), told in VALUES.items():
            self.assertEqual(getattr(module_of(name), value), told)


if __name__ == "__main__":
    unittest.main()
