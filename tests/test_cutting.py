"""Shelves cut by roots, joined, asked in parts, held against one another: points 111 to 113 and 116."""

import itertools
import unittest

from termshelf import errors
from termshelf.cutting import KINDS as WORDS_OF_KINDS
from termshelf.cutting import asked_of, cut, joined, root_of, roots_for, unlike_terms
from termshelf.putshelf import PutShelf
from termshelf.shelves import PlainShelf, Shelf
from termshelf.signshelf import SignShelf
from termshelf.terms import Term
from tests.samples import KINDS, LIKE, OTHER, WAYS, WIDE, WORDS
from tests.samples import Case, Chance, any_things, great, marked, shelf_of, term, terms_of, things_but

ROWS = ["A : z one", "f A B : one two", "f A A : a", "f c A : b", "c : one", "g g B : three"]
KIND_OF = dict(zip(WORDS_OF_KINDS, KINDS))
NOTES = "abcdefghijkl"


def kept(shelf):
    return [(str(one), shelf.notes(one)) for one in shelf.terms()]


def drawn_shelf(chance, kind, words=WORDS, most=40):
    """A shelf with terms and notes by chance."""
    told = kind(words, most=most)
    for _ in range(chance.one_of(range(30))):
        try:
            told.put(term(chance.text(words, 5, ["A", "B"]), words), chance.one_of(NOTES))
        except errors.TermError:
            pass
    return told


class Roots(Case):
    def test_ordinary_ones(self):
        for text, root in [("A", "N0"), ("Z99", "N0"), ("N5", "N0"), ("f A B", "f"), ("c", "c"), ("g A", "g")]:
            self.assertEqual(root_of(term(text)), root)
            self.assertEqual(root_of(term=term(text)), root)
        self.assertEqual([root_of(great("A", 9999)), root_of(term("c", OTHER))], ["f", "c"])

    def test_refusals(self):
        for thing in things_but(Term):
            self.found(errors.NoTerm, thing, root_of, thing)


class Cut(Case):
    def test_ordinary_ones(self):
        for kind in KINDS:
            shelf = shelf_of(kind, ROWS, most=17)
            before = marked(shelf)
            parts = cut(shelf)
            self.assertIs(type(parts), dict)
            self.assertEqual(list(parts), ["N0", "f", "g", "c"])
            self.assertEqual([kept(part) for part in parts.values()], [
                [("N0", ["z", "one"])], [("f N0 N0", ["a"]), ("f N0 N1", ["one", "two"]), ("f c N0", ["b"])],
                [("g g N0", ["three"])], [("c", ["one"])]])
            for part in parts.values():
                self.assertEqual([type(part), part.most(), part.changes(), part.log()], [kind, 17, 0, []])
                self.assertEqual(part.words(), WORDS)
            self.assertEqual(marked(shelf), before)
            self.assertEqual(marked(cut(shelf=shelf)), marked(parts))

    def test_one_root_and_none(self):
        for kind in KINDS:
            self.assertEqual(cut(kind(WORDS)), {})
            shelf = shelf_of(kind, ["f A A : a", "f A B : b"])
            self.assertEqual(list(cut(shelf)), ["f"])
            self.assertEqual(cut(shelf)["f"], shelf)
            self.assertEqual(list(cut(shelf_of(kind, ["B : a"]))), ["N0"])
            many = shelf_of(kind, [f"{text} : a" for text in terms_of(5, ["N0", "N1"]) if term(text).is_normal()][:40])
            self.assertEqual(sum([len(part) for part in cut(many).values()]), 40)

    def test_parts_and_shelf_have_nothing_in_common(self):
        for kind in KINDS:
            shelf = shelf_of(kind, ROWS)
            parts, again = cut(shelf), cut(shelf)
            parts["f"].put(term("f g A B"), "new")
            parts["N0"].take(term("A"), "z")
            parts["N0"].take(term("A"), "one")
            shelf.take(term("c"), "one")
            self.assertEqual([len(parts["f"]), len(parts["N0"]), len(parts["c"])], [4, 0, 1])
            self.assertEqual([len(again["f"]), len(again["N0"]), len(shelf)], [3, 1, 5])
            self.assertEqual(parts["f"].changes(), 1)
            self.assertEqual(list(cut(shelf)), ["N0", "f", "g"])

    def test_refusals(self):
        for thing in things_but(Shelf):
            self.found(errors.NoShelf, thing, cut, thing)


class Joined(Case):
    def test_ordinary_ones(self):
        for kinds in itertools.product(KINDS, repeat=3):
            shelves = [shelf_of(kinds[0], ["f A B : one two", "c : one"]),
                       shelf_of(kinds[1], ["A : z", "f B A : three two one"], most=2),
                       shelf_of(kinds[2], ["c : two one", "f A B : four"])]
            before = marked(shelves)
            rows = [("N0", ["z"]), ("f N0 N1", ["one", "two", "three", "four"]), ("c", ["one", "two"])]
            for word in WORDS_OF_KINDS:
                told = joined(shelves=tuple(shelves), kind=word, most=3)
                self.assertEqual([type(told), kept(told), told.most()], [KIND_OF[word], rows, 3])
                self.assertEqual([told.changes(), told.log(), told.words()], [0, [], WORDS])
                self.assertEqual(marked(shelves), before)
            told = joined(shelves)
            self.assertEqual([type(told), told.most(), kept(told)], [PlainShelf, 40, rows])
            self.assertEqual(kept(joined(shelves[::-1]))[1:],
                             [("f N0 N1", ["four", "three", "two", "one"]), ("c", ["two", "one"])])
            told.put(term("g A"), "new")
            self.assertEqual(marked(shelves), before)

    def test_one_shelf_and_twelve(self):
        for kind, word in itertools.product(KINDS, WORDS_OF_KINDS):
            shelf = shelf_of(kind, ROWS)
            for many in (1, 2, 12):
                self.assertEqual(joined([shelf] * many, kind=word), shelf)
            self.found(errors.NoList, more := [shelf] * 13, joined, more)
            self.assertEqual(kept(joined([kind(WORDS)], kind=word)), [])

    def test_just_as_many_terms_as_may_be(self):
        texts = [text for text in terms_of(6, ["N0", "N1"]) if term(text).is_normal()][:41]
        for kind in KINDS:
            one = shelf_of(kind, [f"{text} : a" for text in texts[:25]])
            other = shelf_of(kind, [f"{text} : b" for text in texts[20:40]])
            self.assertEqual(len(joined([one, other])), 40)
            self.refused(errors.TooMany, "many", 40, joined, [one, other], most=39)
            self.refused(errors.TooMany, "many", 2, joined, [one, other], most=1)
            more = shelf_of(kind, [f"{texts[40]} : c"])
            self.refused(errors.TooMany, "many", 41, joined, [one, other, more], kind="signs")
            self.assertEqual(len(joined([more], most=1)), 1)

    def test_just_as_many_notes_as_may_be(self):
        for kind in KINDS:
            one = shelf_of(kind, ["c : a b c d e", "A : a"])
            other = shelf_of(kind, ["c : e d f g h"])
            self.assertEqual(joined([one, other]).notes(term("c")), list("abcdefgh"))
            more = shelf_of(kind, ["f A A : a", "c : i"])
            self.refused(errors.TooMany, "many", 9, joined, [one, other, more])
            # A term's ninth note is refused ahead of one term more.
            self.refused(errors.TooMany, "many", 9, joined, [one, other, more], most=1)
            self.found(errors.NoNumber, 0, joined, [one, other, more], most=0)
            self.found(errors.NoShelf, "puts", joined, [one, other, more], kind="puts", most=0)

    def test_by_chance(self):
        chance = Chance(112)
        for _ in range(60):
            shelves = [drawn_shelf(chance, chance.one_of(KINDS)) for _ in range(chance.one_of([1, 2, 3]))]
            notes = {}
            for shelf in shelves:
                for text, rows in kept(shelf):
                    notes[text] = list(dict.fromkeys(notes.get(text, []) + rows))
            if max([len(rows) for rows in notes.values()], default=0) > 8:
                self.refused(errors.TooMany, "many", 9, joined, shelves)
            elif len(notes) > 40:
                self.refused(errors.TooMany, "many", 41, joined, shelves)
            else:
                told = joined(shelves, kind=chance.one_of(WORDS_OF_KINDS))
                self.assertEqual(dict(kept(told)), notes)
                self.assertEqual(joined(list(cut(told).values()) or [told]), told)

    def test_refusals(self):
        good, other = PlainShelf(WORDS), SignShelf(OTHER)
        for thing in things_but(list, tuple) + [[], (), [good] * 13, (None,) * 13]:
            self.found(errors.NoList, thing, joined, thing, kind=None, most=None)
        for thing in things_but(Shelf):
            self.found(errors.NoShelf, thing, joined, [thing], kind=None, most=None)
            self.found(errors.NoShelf, thing, joined, (good, PutShelf(LIKE), thing, other), kind=None, most=None)
        self.found(errors.Unlike, other, joined, [good, other, None], kind=None, most=None)
        self.found(errors.Unlike, good, joined, [other, good], kind="plain", most=1)
        for thing in any_things() + ["puts", "Plain", "plains", ("plain",), ["plain"]]:
            self.found(errors.NoShelf, thing, joined, [good], kind=thing, most=None)
        for thing in things_but(int) + [True, False, 0, 41, -1]:
            self.found(errors.NoNumber, thing, joined, [shelf_of(PlainShelf, ["c : a"])], most=thing)


class Parts(Case):
    def test_roots_that_may_have_answers(self):
        for kind in KINDS:
            parts = cut(shelf_of(kind, ROWS))
            for way, text, roots in [
                    ("variants", "B", ["N0"]), ("variants", "f c c", ["f"]), ("above", "f c c", ["N0", "f"]),
                    ("above", "B", ["N0"]), ("meets", "g A", ["N0", "g"]), ("meets", "A", ["N0", "f", "g", "c"]),
                    ("instances", "Z", ["N0", "f", "g", "c"]), ("instances", "c", ["c"])]:
                self.assertEqual(roots_for(parts, way, term(text)), roots)
                self.assertEqual(roots_for(parts=parts, way=way, term=term(text)), roots)
            parts.pop("g")
            parts.pop("N0")
            for way, text, roots in [("variants", "g A", []), ("above", "g c", []), ("meets", "g A", []),
                                     ("above", "f A B", ["f"]), ("meets", "A", ["f", "c"]),
                                     ("instances", "A", ["f", "c"]),
                                     ("variants", "A", []), ("above", "A", [])]:
                self.assertEqual(roots_for(parts, way, term(text)), roots)
            for way in WAYS:
                self.assertEqual([roots_for({}, way, term("A")), asked_of({}, way, term("c"))], [[], []])

    def test_parts_tell_what_the_whole_shelf_tells(self):
        chance = Chance(113)
        for number in range(40):
            words = chance.one_of([WORDS, WIDE])
            shelf = drawn_shelf(chance, chance.one_of(KINDS), words)
            parts = cut(shelf)
            for way in WAYS:
                for text in ("A", chance.text(words, 3, ["A", "B"]), chance.text(words, 6, ["A", "B"])):
                    ask = term(text, words)
                    answers = shelf.ask(way, ask)
                    self.assertEqual(asked_of(parts, way, ask), answers)
                    self.assertEqual(asked_of(parts=parts, way=way, term=ask, limit=None), answers)
                    for limit in (1, 2, 3, 40):
                        self.assertEqual(asked_of(parts, way, ask, limit=limit), answers[:limit])
                    told = [root_of(answer.kept()) for answer in answers]
                    self.assertEqual([root for root in told if root not in roots_for(parts, way, ask)], [])

    def test_parts_of_many_shelves_and_kinds(self):
        texts = [text for text in terms_of(6, ["N0", "N1"]) if term(text).is_normal()]
        parts = {"f": shelf_of(PutShelf, [f"{text} : a" for text in texts if text[0] == "f"][:40]),
                 "g": shelf_of(SignShelf, [f"{text} : a" for text in texts if text[0] == "g"][:40])}
        told = asked_of(parts, "instances", term("A"))
        self.assertEqual(len(told), sum([len(part) for part in parts.values()]))
        self.assertGreater(len(told), 41)
        self.assertEqual(asked_of(parts, "instances", term("A"), limit=40), told[:40])

    def test_what_is_asked_changes_nothing(self):
        parts = cut(shelf_of(KINDS[1], ROWS))
        before = marked(parts)
        asked_of(parts, "meets", term("A")).clear()
        roots_for(parts, "meets", term("A")).clear()
        self.assertEqual(marked(parts), before)
        self.assertEqual(len(asked_of(parts, "meets", term("A"))), 6)
        parts["f"].take(term("f A A"), "a")
        self.assertEqual(len(asked_of(parts, "meets", term("A"))), 5)

    def bad_parts(self):
        parts = cut(shelf_of(KINDS[0], ROWS))
        empty, other = PlainShelf(WORDS), shelf_of(PlainShelf, ["f A A : a"], OTHER)
        some = shelf_of(PlainShelf, ["f A A : a", "g A : b"])
        return [dict(reversed(parts.items())), {**parts, "c": empty}, {**parts, "g": parts["f"]}, {"f": other, **parts},
                {"N0": parts["N0"], "f": other}, {"f": some}, {"N0": parts["f"]}, {"A": parts["N0"]},
                {"f": parts["f"], "N0": parts["N0"]}, {"N1": parts["N0"]}, {None: parts["f"]}, {0: parts["N0"]},
                {True: parts["f"]}, {"f": parts["f"], "g": None}, {"f": [parts["f"]]}, {"f": empty}, {"h": parts["f"]},
                {"f": "f"}, {"c": parts["c"], "d": parts["c"]}, {"f": None, "g": parts["g"]}, {"c": parts}]

    def test_refusals(self):
        for ask in (roots_for, asked_of):
            more = {} if ask is roots_for else {"limit": "x"}
            nothing = [thing for thing in any_things() if thing != {}]
            for thing in nothing + self.bad_parts():
                self.found(errors.NoShelf, thing, ask, thing, None, None, **more)
            parts, other = cut(shelf_of(KINDS[2], ROWS)), term("A", OTHER)
            for some in (parts, {}, {"c": parts["c"]}):
                for thing in any_things() + ["Meets"]:
                    self.found(errors.NoWay, thing, ask, some, thing, None, **more)
                for way in WAYS:
                    for thing in things_but(Term):
                        self.found(errors.NoTerm, thing, ask, some, way, thing, **more)
                    self.refused(errors.TooGreat, "many", 17, ask, some, way, great("A", 17), **more)
            wide = term(" ".join(great("A", 17).signs()), OTHER)
            for way in WAYS:
                for thing in (other, wide):
                    self.found(errors.Unlike, thing, ask, parts, way, thing, **more)
                self.assertEqual(ask({}, way, other), [])
        for some in (parts, {}):
            for thing in things_but(int, type(None)) + [True, False, 0, 41, -1]:
                self.found(errors.NoNumber, thing, asked_of, some, "meets", term("A"), limit=thing)
        self.refused(errors.TooGreat, "many", 17, asked_of, {}, "meets", wide, limit=0)


class Against(Case):
    def told(self, one, other):
        return [(str(made), notes, others) for made, notes, others in unlike_terms(one, other)]

    def test_ordinary_ones(self):
        for kind, like in itertools.product(KINDS, repeat=2):
            one, other = shelf_of(kind, ROWS), shelf_of(like, ROWS[1:3] + ["c : two", "B : one z", "g c : q"])
            told = [("N0", ["z", "one"], ["one", "z"]), ("f c N0", ["b"], None), ("g g N0", ["three"], None),
                    ("g c", None, ["q"]), ("c", ["one"], ["two"])]
            self.assertEqual(self.told(one, other), told)
            self.assertEqual(unlike_terms(one=one, other=other), unlike_terms(one, other))
            self.assertEqual(self.told(other, one), [(text, others, notes) for text, notes, others in told])
            self.assertEqual([self.told(one, one), self.told(one, shelf_of(like, ROWS[::-1]))], [[], []])
            self.assertEqual(self.told(kind(WORDS), like(LIKE, most=1)), [])
            self.assertIs(type(unlike_terms(one, other)[0]), tuple)
            self.assertEqual(unlike_terms(one, other)[0][0].words(), WORDS)

    def test_by_chance(self):
        chance = Chance(116)
        for number in range(60):
            one = drawn_shelf(chance, chance.one_of(KINDS))
            other = chance.one_of([one.copied(), drawn_shelf(chance, chance.one_of(KINDS))])
            for text in ("A", "f A B"):
                if other.has(term(text)) and chance.one_of([True, False]):
                    note = other.notes(term(text))[0]
                    other.take(term(text), note)
                    if chance.one_of([True, False]):
                        other.put(term(text), note)
            rows = [dict(kept(shelf)) for shelf in (one, other)]
            told = self.told(one, other)
            self.assertEqual({text: (notes, others) for text, notes, others in told},
                             {text: (rows[0].get(text), rows[1].get(text)) for text in rows[0] | rows[1]
                              if rows[0].get(text) != rows[1].get(text)})
            self.assertEqual([text for text, _, _ in told], sorted([text for text, _, _ in told],
                                                                    key=lambda text: term(text).rank()))
            self.told_alike(one == other, told == [])

    def told_alike(self, one, other):
        self.assertIs(one, other)

    def test_all_terms_of_two_full_shelves(self):
        texts = [text for text in terms_of(6, ["N0", "N1"]) if term(text).is_normal()][:80]
        one = shelf_of(PlainShelf, [f"{text} : a" for text in texts[1::2]])
        other = shelf_of(PutShelf, [f"{text} : a" for text in texts[::2]])
        self.assertEqual(len(unlike_terms(one, other)), 80)

    def test_lists_are_the_askers_own(self):
        one, other = shelf_of(SignShelf, ROWS), shelf_of(PlainShelf, ["A : q"])
        before = marked([one, other])
        for _, notes, others in unlike_terms(one, other):
            (notes or []).append("x")
            (others or []).append("x")
        unlike_terms(one, other).clear()
        self.assertEqual(marked([one, other]), before)
        self.assertEqual(self.told(one, other)[0], ("N0", ["z", "one"], ["q"]))

    def test_refusals(self):
        good, other = PlainShelf(WORDS), PutShelf(OTHER)
        for thing in things_but(Shelf):
            self.found(errors.NoShelf, thing, unlike_terms, thing, None)
            self.found(errors.NoShelf, thing, unlike_terms, thing, other)
            self.found(errors.NoShelf, thing, unlike_terms, good, thing)
        self.found(errors.Unlike, other, unlike_terms, good, other)
        self.found(errors.Unlike, good, unlike_terms, other, good)


if __name__ == "__main__":
    unittest.main()
