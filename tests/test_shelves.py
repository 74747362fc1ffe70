"""Shelves of each kind: points 51 to 54, and what is kept by them."""

import itertools
import unittest

from termshelf import errors
from termshelf.putshelf import PutShelf
from termshelf.shelves import PlainShelf, Shelf
from termshelf.signs import Words
from termshelf.signshelf import SignShelf
from termshelf.terms import Term
from tests.samples import KINDS, LIKE, ONE, OTHER, ROWS, WIDE, WORDS
from tests.samples import Case, great, marked, shelf_of, term, terms_of, things_but

SIX = ["index_put", "index_take", "empty_one", "candidates", "walk", "steps"]
NORMAL = [text for text in terms_of(6, ["N0", "N1"]) if term(text).is_normal()]
NO_NOTES = ["", "One", "one1", "ninesigns", "a b", "a\n", "~", " ", None, True, 1, ["one"], ("one",), {"one": 1}]


class Told(Shelf):
    """A kind that writes down what it is told, and has its candidates in another order, as terms of its own."""

    def __init__(self, words, *, most=40):
        super().__init__(words, most=most)
        self.rows = []
        self.lacking = []

    def index_put(self, term):
        self.rows.append(("put", str(term), term.is_normal()))

    def index_take(self, term):
        self.rows.append(("take", str(term), term.is_normal()))

    def empty_one(self):
        return Told(self.words(), most=self.most())

    def candidates(self, way, term):
        self.rows.append((way, str(term)))
        kept = [kept for kept in reversed(self.terms()) if str(kept) not in self.lacking]
        return [Term(kept.words(), kept.signs()) for kept in kept]

    def walk(self, way, term):
        return []

    def steps(self, way, term):
        return 0


class Made(Case):
    def test_without_terms(self):
        for kind in KINDS:
            for most in (1, 2, 39, 40):
                shelf = kind(words=WORDS, most=most)
                self.assertEqual([shelf.most(), len(shelf), shelf.terms(), shelf.log()], [most, 0, [], []])
                self.assertEqual(shelf.changes(), 0)
                self.assertEqual(str(shelf), "0 0")
                self.assertEqual(shelf.words(), WORDS)
            self.assertEqual(kind(WORDS).most(), 40)

    def test_all_stand_straight_under_shelf(self):
        for kind in KINDS:
            self.assertEqual(kind.__bases__, (Shelf,))
            shared = [name for name in vars(kind) if name in vars(Shelf) and not name.startswith("__")]
            self.assertEqual(sorted(shared), sorted(SIX))
            for name in SIX:
                self.assertTrue(callable(vars(Shelf)[name]))

    def test_refusals(self):
        for kind in KINDS:
            for thing in things_but(Words):
                self.found(errors.NoWords, thing, kind, thing)
                self.found(errors.NoWords, thing, kind, thing, most=0)
            for thing in things_but(int) + [True, False, 0, -1, 41, 100, 10 ** 30 - 1]:
                self.found(errors.NoNumber, thing, kind, WORDS, most=thing)


class Kinds(Case):
    def test_are_told_of_terms_that_come_and_go(self):
        shelf = Told(WORDS)
        shelf.put(term("f B A"), "one")
        shelf.put(term("f A B"), "two")
        shelf.put(term("c"), "one")
        shelf.take(term("f N9 N8"), "one")
        self.assertEqual(shelf.rows, [("put", "f N0 N1", True), ("put", "c", True)])
        shelf.take(term("f A B"), "two")
        self.assertEqual(shelf.rows[2:], [("take", "f N0 N1", True)])
        shelf.put(term("f N3 A"), "two")
        self.assertEqual(shelf.rows[3:], [("put", "f N0 N1", True)])

    def test_are_told_nothing_of_what_is_refused(self):
        shelf = Told(WORDS, most=1)
        shelf.put(term("c"), "one")
        for row in [(None, "one"), (term("A", OTHER), "one"), (term("A"), "One"), (term("c"), "one"),
                    (term("A"), "one")]:
            with self.assertRaises(errors.TermError):
                shelf.put(*row)
        for row in [(term("A"), "one"), (term("c"), "two")]:
            with self.assertRaises(errors.Absent):
                shelf.take(*row)
        self.assertEqual(shelf.rows, [("put", "c", True)])

    def test_are_told_where_deeds_are_taken_back(self):
        shelf = Told(WORDS)
        shelf.put(term("A"), "one")
        deeds = [("put", term("c"), "one"), ("put", term("c"), "two"), ("take", term("B"), "one"),
                 ("put", term("A"), "")]
        with self.assertRaises(errors.NoNote):
            shelf.all_deeds(deeds)
        rows = [("put", "c"), ("take", "N0"), ("put", "N0"), ("take", "c")]
        self.assertEqual(shelf.rows[1:], [row + (True,) for row in rows])

    def test_are_told_of_what_is_copied(self):
        shelf = Told(WORDS)
        shelf.put(term("A"), "one")
        shelf.put(term("A"), "two")
        other = shelf.copied()
        self.assertIs(type(other), Told)
        self.assertEqual(other.rows, [("put", "N0", True)])

    def test_answers_are_looked_for_among_the_candidates_alone(self):
        shelf = Told(WORDS)
        for text in ("f A B", "c", "g A"):
            shelf.put(term(text), "one")
        asked = [str(answer) for answer in shelf.ask("instances", term("A"))]
        self.assertEqual(asked, ["f N0 N1 : one", "g N0 : one", "c : one"])
        self.assertEqual(shelf.rows[3:], [("instances", "A")])
        shelf.lacking.append("g N0")
        asked = [str(answer) for answer in shelf.ask("instances", term("A"))]
        self.assertEqual(asked, ["f N0 N1 : one", "c : one"])
        asked = [str(answer) for answer in shelf.ask("instances", term("A"), limit=1)]
        self.assertEqual(asked, ["f N0 N1 : one"])

    def test_candidates_are_asked_for_by_good_asks_alone(self):
        shelf = Told(WORDS)
        for way, thing, limit in [("", term("A"), 1), ("meets", 1, 1), ("meets", term("A", OTHER), 1),
                                  ("meets", great("A", 17), 1), ("meets", term("A"), 0)]:
            with self.assertRaises(errors.TermError):
                shelf.ask(way, thing, limit=limit)
        self.assertEqual(shelf.rows, [])


class Put(Case):
    def test_variants_are_kept_as_one(self):
        for kind in KINDS:
            shelf = kind(WORDS)
            told = [shelf.put(term("f B g A"), "one"), shelf.put(note="two", term=term("f A g Z9")),
                    shelf.put(term("A"), "b"), shelf.put(term("f N1 g N0", LIKE), "a")]
            self.assertEqual(told, [None] * 4)
            self.assertEqual([str(kept) for kept in shelf.terms()], ["N0", "f N0 g N1"])
            self.assertEqual(shelf.notes(term("f Z g A")), ["one", "two", "a"])
            self.assertEqual([shelf.changes(), shelf.log(), len(shelf), str(shelf)], [4, ["put"] * 4, 2, "2 4"])

    def test_terms_stand_in_order(self):
        for kind in KINDS:
            for rows in (NORMAL[:40], NORMAL[40:80], NORMAL[-40:]):
                falling = [str(kept) for kept in shelf_of(kind, [f"{text} : one" for text in reversed(rows)]).terms()]
                rising = shelf_of(kind, [f"{text} : one" for text in rows]).terms()
                self.assertEqual([str(kept) for kept in rising], falling)
                self.assertEqual(rising, sorted([term(text) for text in rows], key=lambda kept: kept.rank()))

    def test_the_order_of_terms_hangs_on_that_of_the_words(self):
        for kind, (rows, told) in itertools.product(KINDS, [(ROWS, ["N0", "f c c", "g c", "c"]),
                                                            (ROWS[::-1], ["N0", "c", "g c", "f c c"])]):
            shelf = kind(Words(rows))
            for text in ("g c", "c", "A", "f c c"):
                shelf.put(term(text, Words(rows)), "one")
            self.assertEqual([str(kept) for kept in shelf.terms()], told)

    def test_edges_of_what_may_be_kept(self):
        for kind in KINDS:
            for most in (1, 2, 40):
                shelf = shelf_of(kind, [f"{text} : one" for text in NORMAL[:most]], most=most)
                self.refused(errors.TooMany, "many", most + 1, shelf.put, term(NORMAL[most]), "one")
                shelf.put(term(NORMAL[0]), "two")
                shelf.take(term(NORMAL[most - 1]), "one")
                if most > 1:
                    shelf.put(term(NORMAL[most]), "one")
                self.assertEqual(len(shelf), most)

    def test_edges_of_signs(self):
        for kind in KINDS:
            shelf = kind(WORDS)
            shelf.put(self.sixteen(), "one")
            self.assertEqual(shelf.terms(), [self.sixteen().normal()])
            for many in (17, 18, 100, 101, 9999):
                self.refused(errors.TooGreat, "many", many, shelf.put, great("A", many), "one")

    def test_edges_of_notes(self):
        for kind in KINDS:
            notes = ["a", "eightsig", "z", "b", "c", "d", "e", "f"]
            shelf = shelf_of(kind, ["g A : " + " ".join(notes)], most=1)
            self.assertEqual(shelf.notes(term("g B")), notes)
            for note in notes:
                self.found(errors.Twice, note, shelf.put, term("g C"), note)
            self.refused(errors.TooMany, "many", 9, shelf.put, term("g C"), "other")
            shelf.take(term("g D"), "z")
            shelf.put(term("g D"), "z")
            self.assertEqual(shelf.notes(term("g B")), notes[:2] + notes[3:] + ["z"])

    def test_refusals_one_behind_the_other(self):
        for kind in KINDS:
            shelf = shelf_of(kind, ["g A : one"], most=1)
            before = marked(shelf)
            for thing in things_but(Term):
                self.found(errors.NoTerm, thing, shelf.put, thing, None)
            for other in (term("A", OTHER), term("h A B C", ONE), term("t A A A t A A A t A A A t A A A A", WIDE)):
                self.found(errors.Unlike, other, shelf.put, other, None)
            self.refused(errors.TooGreat, "many", 17, shelf.put, great("A", 17), None)
            for thing in NO_NOTES:
                self.found(errors.NoNote, thing, shelf.put, term("c"), thing)
                self.found(errors.NoNote, thing, shelf.put, term("g A"), thing)
            self.found(errors.Twice, "one", shelf.put, term("g A"), "one")
            self.refused(errors.TooMany, "many", 2, shelf.put, term("c"), "one")
            self.assertEqual(marked(shelf), before)


class Taken(Case):
    def test_the_last_note_takes_the_term_along(self):
        for kind in KINDS:
            shelf = shelf_of(kind, ["f A B : one two", "c : one"])
            self.assertIsNone(shelf.take(term("f B A"), "one"))
            self.assertEqual([str(kept) for kept in shelf.terms()], ["f N0 N1", "c"])
            self.assertIsNone(shelf.take(note="two", term=term("f C D")))
            self.assertEqual([str(kept) for kept in shelf.terms()], ["c"])
            self.told(False, shelf.has(term("f A B")))
            self.found(errors.NotThere, gone := term("f A B"), shelf.notes, gone)
            for way in ("instances", "above", "meets", "variants"):
                self.assertEqual([str(answer) for answer in shelf.ask(way, term("f A B"))], [])
                self.assertNotIn("f N0 N1", [str(kept) for kept, _ in shelf.barred(way, term("c"))])
            self.assertEqual([shelf.changes(), shelf.log()], [5, ["put"] * 3 + ["take"] * 2])
            shelf.put(term("f A B"), "two")
            self.assertEqual(shelf.notes(term("f A B")), ["two"])

    def test_refusals_one_behind_the_other(self):
        for kind in KINDS:
            shelf = shelf_of(kind, ["f A B : one"])
            before = marked(shelf)
            for thing in things_but(Term):
                self.found(errors.NoTerm, thing, shelf.take, thing, None)
            self.found(errors.Unlike, other := term("A", OTHER), shelf.take, other, None)
            for thing in NO_NOTES:
                self.found(errors.NoNote, thing, shelf.take, term("f A A"), thing)
                self.found(errors.NoNote, thing, shelf.take, term("f A B"), thing)
            for gone in (term("f A A"), term("c"), great("A", 17), great("A", 9999)):
                self.found(errors.NotThere, gone, shelf.take, gone, "one")
            self.found(errors.NotThere, "two", shelf.take, term("f A B"), "two")
            self.assertEqual(marked(shelf), before)


class Asked(Case):
    def test_notes_and_whether_it_has_a_term(self):
        for kind in KINDS:
            shelf = shelf_of(kind, ["f A B : one two", "c : one"])
            self.told(True, shelf.has(term("f B A", LIKE)))
            self.told(True, shelf.has(term=term("c")))
            for thing in things_but(Term) + [term("f A A"), term("f A B", OTHER), term("c", OTHER), great("A", 9999)]:
                self.told(False, shelf.has(thing))
            for thing in things_but(Term):
                self.found(errors.NoTerm, thing, shelf.notes, thing)
            self.found(errors.Unlike, other := term("c", OTHER), shelf.notes, other)
            for gone in (term("f A A"), term("A"), great("A", 17)):
                self.found(errors.NotThere, gone, shelf.notes, gone)
            self.assertEqual(shelf.notes(term=term("f B A")), ["one", "two"])

    def test_equal_just_by_words_terms_and_notes(self):
        rows = ["f A B : one two", "c : one"]
        for kind in KINDS:
            shelf = shelf_of(kind, rows)
            other_way = shelf_of(kind, ["c : two one", "f B A : one"], most=7)
            other_way.take(term("c"), "two")
            other_way.put(term("f A B"), "two")
            like = [shelf_of(one, rows, words) for one in KINDS for words in (WORDS, LIKE)] + [other_way]
            unlike = [shelf_of(one, other) for one in KINDS for other in (
                [], rows[:1], ["f A B : two one", "c : one"], ["f A B : one two", "c : two"],
                ["f A A : one two", "c : one"], ["f A B : one", "c : one"], rows + ["A : one"])]
            unlike += [shelf_of(one, rows, OTHER) for one in KINDS] + [None, "2 3", 2, [], {}, shelf.terms(), WORDS]
            self.equal_just(shelf, like, unlike)
            self.equal_just(kind(WORDS), [one(LIKE, most=3) for one in KINDS], [one(OTHER) for one in KINDS] + [shelf])

    def test_as_texts(self):
        for kind in KINDS:
            shelf = shelf_of(kind, ["f A B : one two", "c : one", "A : a b c"])
            self.assertEqual(str(shelf), "3 6")
            self.assertIsInstance(repr(shelf), str)

    def test_copies(self):
        for kind in KINDS:
            shelf = shelf_of(kind, ["f A B : one two", "c : one"], most=3)
            shelf.take(term("c"), "one")
            shelf.put(term("g A"), "z")
            other = shelf.copied()
            self.assertIs(type(other), kind)
            self.assertEqual([other, other.most(), other.changes(), other.log()], [shelf, 3, 0, []])
            self.assertEqual([shelf.changes(), len(shelf.log())], [5, 5])
            before = marked(shelf)
            other.put(term("f A B"), "three")
            other.take(term("g A"), "z")
            other.put(term("c"), "one")
            self.assertEqual(marked(shelf), before)
            self.assertEqual([other.changes(), other.log()], [3, ["put", "take", "put"]])
            before = marked(other)
            shelf.take(term("f A B"), "one")
            self.assertEqual(marked(other), before)
            for way in ("instances", "above", "meets", "variants"):
                answers = [str(answer) for answer in other.ask(way, term("f B A"))]
                self.assertEqual(answers, ["f N0 N1 : one two three"])

    def test_what_is_told_is_the_askers_own(self):
        for kind in KINDS:
            shelf = shelf_of(kind, ["f A B : one two", "c : one"])
            before = marked(shelf)
            for told in (shelf.terms(), shelf.notes(term("f A B")), shelf.log()):
                told.clear()
                self.assertEqual(marked(shelf), before)
            self.assertEqual(shelf.notes(term("f A B")), ["one", "two"])
            self.assertEqual(len(shelf.terms()), 2)

    def test_each_kind_is_its_own_class(self):
        self.assertEqual(len({PlainShelf, SignShelf, PutShelf, Shelf}), 4)


if __name__ == "__main__":
    unittest.main()
