"""Joined asks: points 85 to 87."""

import itertools
import unittest

from termshelf import errors
from termshelf.joined import pushed, told_by, why_told
from termshelf.shelves import Shelf
from termshelf.terms import Term
from tests.samples import KINDS, LIKE, OTHER, WAYS, WORDS
from tests.samples import Case, Chance, any_things, great, marked, shelf_of, term, things_but

ROWS = ["A : z", "f A B : one two", "f A A : a", "f c A : b", "g A : one", "g c : one", "c : one"]
SHELVES = [shelf_of(kind, ROWS) for kind in KINDS]
UNDER_F = ("one", "instances", term("f A B"))
MEETS = ("one", "meets", term("f c c"))
ALL = ["N0", "f N0 N0", "f N0 N1", "f c N0", "g N0", "g c", "c"]


def texts(terms):
    return [str(one) for one in terms]


def tells(shelf, ask, kept):
    """Whether a joined ask tells a kept term, as plainly as can be."""
    if ask[0] == "one":
        return str(kept) in [str(answer.kept()) for answer in shelf.ask(*ask[1:])]
    if ask[0] == "none":
        return not tells(shelf, ask[1], kept)
    truths = [tells(shelf, part, kept) for part in ask[1]]
    return truths.count(True) == len(truths) if ask[0] == "all" else truths.count(True) > 0


def whys(shelf, ask, kept):
    parts = {"one": [], "none": ask[1:2]}.get(ask[0], ask[1])
    return (tells(shelf, ask, kept), [whys(shelf, part, kept) for part in parts])


def made(chance, within):
    """A joined ask by chance, with so many within one another at most."""
    word = chance.one_of(["one", "all", "any", "none"]) if within > 1 else "one"
    if word == "one":
        return ("one", chance.one_of(WAYS), term(chance.text(WORDS, 4, ["A", "B"])))
    if word == "none":
        return ("none", made(chance, within - 1))
    kind = chance.one_of([list, tuple])
    return (word, kind([made(chance, within - 1) for _ in range(chance.one_of(range(7 if within < 4 else 4)))]))


def deep(ask, many):
    """An ask within so many nones."""
    for _ in range(many):
        ask = ("none", ask)
    return ask


class Told(Case):
    def test_ordinary_ones(self):
        for ask, told in [
                (UNDER_F, ["f N0 N0", "f N0 N1", "f c N0"]), (MEETS, ["N0", "f N0 N0", "f N0 N1", "f c N0"]),
                (("none", UNDER_F), ["N0", "g N0", "g c", "c"]), (("all", [MEETS, ("none", UNDER_F)]), ["N0"]),
                (("any", [("one", "variants", term("c")), ("one", "above", term("g c"))]), ["N0", "g N0", "g c", "c"]),
                (("all", []), ALL), (("any", []), []), (("none", ("all", ())), []), (("none", ("any", ())), ALL),
                (("all", [("all", []), ("any", [UNDER_F])]), ["f N0 N0", "f N0 N1", "f c N0"])]:
            for shelf in SHELVES:
                self.assertEqual(texts(told_by(shelf, ask)), told)
                self.assertEqual(texts(told_by(shelf=shelf, ask=ask)), told)

    def test_by_chance(self):
        for seed in range(80):
            ask = made(Chance(seed), 4)
            before = marked(ask)
            for shelf in SHELVES:
                kept = marked(shelf)
                told = told_by(shelf, ask)
                self.assertEqual(told, [one for one in shelf.terms() if tells(shelf, ask, one)])
                told.clear()
                self.assertEqual(told_by(shelf, pushed(ask)), told_by(shelf, ask))
                for one in shelf.terms():
                    self.assertEqual(repr(why_told(shelf, one, ask)), repr(whys(shelf, ask, one)))
                self.assertEqual(marked(shelf), kept)
            self.assertEqual(marked(ask), before)

    def test_an_empty_shelf(self):
        for kind in KINDS:
            for ask in (("all", []), ("none", ("any", [])), UNDER_F):
                self.assertEqual(told_by(kind(WORDS), ask), [])

    def test_six_asks_and_four_within_one_another(self):
        for shelf in SHELVES:
            self.assertEqual(texts(told_by(shelf, ("any", [UNDER_F] * 6))), texts(told_by(shelf, UNDER_F)))
            self.assertEqual(texts(told_by(shelf, deep(UNDER_F, 3))), texts(told_by(shelf, ("none", UNDER_F))))
            self.found(errors.NoAsk, more := ("any", [UNDER_F] * 7), told_by, shelf, more)


class Pushed(Case):
    def test_ordinary_ones(self):
        other, none, none_other = MEETS, ("none", UNDER_F), ("none", MEETS)
        for ask, told in [
                (UNDER_F, UNDER_F), (none, none), (("none", none), UNDER_F), (deep(UNDER_F, 3), none),
                (("all", (UNDER_F, other)), ("all", [UNDER_F, other])), (("any", ()), ("any", [])),
                (("none", ("all", [UNDER_F, other])), ("any", [none, none_other])),
                (("none", ("any", (UNDER_F, none_other))), ("all", [none, other])),
                (("none", ("all", [])), ("any", [])), (("none", ("any", ())), ("all", [])),
                (("none", ("all", [none, ("any", [other])])), ("any", [UNDER_F, ("all", [none_other])])),
                (("any", [("none", ("all", [other, UNDER_F]))]), ("any", [("any", [none_other, none])])),
                (("none", ("none", ("all", (other,)))), ("all", [MEETS]))]:
            self.assertEqual(marked(pushed(ask)), marked(told))
            self.assertEqual(marked(pushed(ask=ask)), marked(told))
            self.assertEqual(marked(pushed(told)), marked(told))

    def straight(self, ask):
        """None stands straight ahead of one alone, and what is within stands in lists."""
        if ask[0] == "none":
            self.assertEqual(ask[1][0], "one")
        elif ask[0] != "one":
            self.assertIs(type(ask[1]), list)
            for part in ask[1]:
                self.straight(part)

    def test_by_chance(self):
        for seed in range(200):
            ask = made(Chance(seed), 4)
            before = marked(ask)
            told = pushed(ask)
            self.straight(told)
            self.assertEqual(marked(ask), before)
            self.assertEqual(marked(pushed(ask)), marked(told))

    def test_ways_and_terms_are_not_looked_at(self):
        for way, thing in itertools.product(any_things(), [None, [1, {"A": []}], "meets"]):
            ask = ("one", way, thing)
            self.assertEqual(marked(pushed(("none", ("all", [ask])))), marked(("any", [("none", ask)])))

    def test_what_is_told_is_the_askers_own(self):
        ask = ("all", [("one", ["x"], {"A": [1]}), ("any", [])])
        before = marked(ask)
        told = pushed(ask)
        told[1][0][1].clear()
        told[1][0][2]["A"].clear()
        told[1][1][1].append(1)
        told[1].clear()
        self.assertEqual(marked(ask), before)
        self.assertEqual(marked(pushed(ask)), before)


class Why(Case):
    def test_ordinary_ones(self):
        ask = ("all", [("any", [UNDER_F, ("one", "variants", term("c"))]), ("none", MEETS), ("all", [])])
        for text, told in [("f A A", (False, [(True, [(True, []), (False, [])]), (False, [(True, [])]), (True, [])])),
                           ("c", (True, [(True, [(False, []), (True, [])]), (True, [(False, [])]), (True, [])])),
                           ("g Z", (False, [(False, [(False, []), (False, [])]), (True, [(False, [])]), (True, [])]))]:
            for shelf in SHELVES:
                self.assertEqual(marked(why_told(shelf, term(text), ask)), marked(told))
                self.assertEqual(marked(why_told(shelf=shelf, term=term(text, LIKE), ask=ask)), marked(told))
                why_told(shelf, term(text), ask)[1][0][1].clear()
                self.assertEqual(marked(why_told(shelf, term(text), ask)), marked(told))


class Refused(Case):
    def test_the_shelf_and_the_term_ahead(self):
        other = term("c", OTHER)
        for thing in things_but(Shelf):
            self.found(errors.NoShelf, thing, told_by, thing, None)
            self.found(errors.NoShelf, thing, why_told, thing, None, None)
        for shelf in SHELVES:
            for thing in things_but(Term):
                self.found(errors.NoTerm, thing, why_told, shelf, thing, None)
            self.found(errors.Unlike, other, why_told, shelf, other, None)
            for gone in (term("g g A"), great("A", 17), term("f A g A")):
                self.found(errors.NotThere, gone, why_told, shelf, gone, None)

    def asks(self):
        """What looks at joined asks, and whether it looks at ways and terms."""
        told = [(pushed, False)]
        for shelf in SHELVES:
            told.append((lambda ask, shelf=shelf: told_by(shelf, ask), True))
            told.append((lambda ask, shelf=shelf: why_told(shelf, term("c"), ask), True))
        return told

    def test_what_is_no_ask(self):
        none = any_things() + [
            ("one",), ("one", "meets"), ("one", "meets", term("A"), None), ("all",), ("all", [], []), ("all", None),
            ("any",), ("any", {}), ("any", "asks"), ("none",), ("none", UNDER_F, UNDER_F), ("One", "meets", None),
            (1, []), ("each", []), (None, []), (["all"], []), (True, []), list(UNDER_F), ["all", []],
            ("all", [UNDER_F] * 7), ("any", (UNDER_F,) * 10), ((), ()), (term("A"), [])]
        for ask, _ in self.asks():
            for thing in none:
                self.found(errors.NoAsk, thing, ask, thing)
                self.found(errors.NoAsk, thing, ask, ("all", [UNDER_F, ("none", ("any", [thing, None]))]))
        for ask, _ in self.asks()[:2]:
            for thing in none:
                self.found(errors.NoAsk, thing, ask, ("none", thing))
                self.found(errors.NoAsk, thing, ask, ("any", (UNDER_F, thing, None)))

    def test_what_stands_within_four_others(self):
        for ask, _ in self.asks():
            for inner in (UNDER_F, ("all", []), None, ("none", None)):
                self.found(errors.NoAsk, inner, ask, deep(inner, 4))
                self.found(errors.NoAsk, inner, ask, ("all", [("any", [("none", ("all", [inner, None]))])]))
            self.found(errors.NoAsk, inner := ("none", None), ask, deep(inner, 5)[1])
            ask(deep(UNDER_F, 3))

    def test_ways_and_terms_part_by_part(self):
        other, wide = term("A", OTHER), great("A", 17)
        for ask, looks in self.asks():
            if looks:
                for bad, error, field, value in [
                        (("one", "Meets", None), errors.NoWay, "found", None),
                        (("one", [], None), errors.NoWay, "found", None),
                        (("one", "meets", None), errors.NoTerm, "found", None),
                        (("one", "above", other), errors.Unlike, "found", other),
                        (("one", "variants", wide), errors.TooGreat, "many", 17)]:
                    value = bad[1] if error is errors.NoWay else value
                    for whole in (bad, ("none", bad), ("all", [UNDER_F, bad, None]),
                                  ("any", [("all", [bad, None]), None]),
                                  ("all", [deep(UNDER_F, 2), ("any", [bad]), ("one",)])):
                        self.refused(error, field, value, ask, whole)
                # A part is looked at with all that is within it ahead of those behind it.
                whole = ("all", [("any", [UNDER_F, last := ("one",)]), ("one", "x", None)])
                self.found(errors.NoAsk, last, ask, whole)
                self.found(errors.NoAsk, whole := ("all", [("one", "x", None)] * 7), ask, whole)


if __name__ == "__main__":
    unittest.main()
