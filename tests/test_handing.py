"""Answers handed out one at a time, and tellers: points 81 to 84."""

import itertools
import unittest

from termshelf import errors
from termshelf.handing import Handing, teller
from termshelf.shelves import Shelf
from termshelf.terms import Term
from tests.samples import KINDS, OTHER, WAYS, WORDS
from tests.samples import Case, any_things, great, marked, shelf_of, term, things_but

ROWS = ["A : z", "f A B : one two", "f A A : a", "f c A : b", "c : one"]
BAD = [("put", term("g A"), "a"), ("take", term("c"), "one"), ("put", term("A"), "z")]


class Handed(Case):
    def test_one_at_a_time_in_their_order(self):
        for kind, way, steady in itertools.product(KINDS, WAYS, [True, False]):
            shelf = shelf_of(kind, ROWS)
            answers = shelf.ask(way, term("f A B"))
            handing = Handing(shelf=shelf, way=way, term=term("f A B"), steady=steady)
            for number, answer in enumerate(answers):
                self.assertEqual([handing.given(), handing.left()], [number, len(answers) - number])
                self.assertEqual(handing.more(), answer)
            for _ in range(2):
                self.none_left(handing)
                self.assertEqual([handing.given(), handing.left(), handing.rest()], [len(answers), 0, []])

    def none_left(self, handing):
        with self.assertRaises(errors.NoMore) as caught:
            handing.more()
        self.assertIs(type(caught.exception), errors.NoMore)

    def test_all_that_are_left(self):
        for kind, ahead in itertools.product(KINDS, range(5)):
            shelf = shelf_of(kind, ROWS)
            answers = shelf.ask("meets", term("f A B"))
            self.assertEqual(len(answers), 4)
            handing = Handing(shelf, "meets", term("f A B"))
            told = [handing.more() for _ in range(ahead)]
            rest = handing.rest()
            self.assertEqual(told + rest, answers)
            self.assertEqual([handing.given(), handing.left()], [4, 0])
            rest.append(None)
            self.assertEqual(handing.rest(), [])
            self.none_left(handing)

    def test_without_answers(self):
        for kind in KINDS:
            handing = Handing(shelf_of(kind, []), "instances", term("A"), steady=False)
            self.assertEqual([handing.given(), handing.left(), handing.rest(), handing.given()], [0, 0, [], 0])
            self.none_left(handing)

    def test_steady_ones_stand_when_the_shelf_changes(self):
        for kind in KINDS:
            shelf = shelf_of(kind, ROWS)
            answers = shelf.ask("meets", term("f A B"))
            handings = [Handing(shelf, "meets", term("f A B")), Handing(shelf, "meets", term("f A B"), steady=True)]
            shelf.take(term("A"), "z")
            for handing in handings:
                self.assertEqual([handing.more(), handing.left()], [answers[0], 3])
            shelf.put(term("f A A"), "later")
            shelf.take(term("f c A"), "b")
            for handing in handings:
                self.assertEqual([handing.more(), handing.rest(), handing.given()], [answers[1], answers[2:], 4])
                self.assertEqual(handing.left(), 0)
                self.none_left(handing)

    def test_others_are_refused_with_the_change(self):
        for kind in KINDS:
            shelf = shelf_of(kind, ROWS)
            handing = Handing(shelf, "meets", term("f A B"), steady=False)
            first = handing.more()
            for many, deed in enumerate([lambda: shelf.put(term("g A"), "a"), lambda: shelf.take(term("g A"), "a"),
                                         lambda: shelf.all_deeds([("put", term("g A"), "a")])]):
                deed()
                for ask in (handing.more, handing.left, handing.rest):
                    self.refused(errors.Changed, "many", many + 1, ask)
                self.assertEqual(handing.given(), 1)
            self.assertEqual(str(first), "N0 : z")
            shelf.all_deeds([("put", term("g g A"), "a"), ("take", term("g g A"), "a")])
            self.refused(errors.Changed, "many", 5, handing.left)
            done = Handing(shelf, "meets", term("f A B"), steady=False)
            done.rest()
            shelf.take(term("A"), "z")
            for ask in (done.more, done.rest, done.left):
                self.refused(errors.Changed, "many", 1, ask)
            self.assertEqual(done.given(), 4)

    def test_deeds_that_are_refused_are_none(self):
        for kind in KINDS:
            shelf = shelf_of(kind, ROWS)
            handing = Handing(shelf, "instances", term("A"), steady=False)
            for rows in (BAD, BAD[2:], [("take", term("g c"), "a")]):
                with self.assertRaises((errors.Twice, errors.NotThere)):
                    shelf.all_deeds(rows)
            with self.assertRaises(errors.Twice):
                shelf.put(term("A"), "z")
            with self.assertRaises(errors.NotThere):
                shelf.take(term("A"), "y")
            self.assertEqual([handing.left(), str(handing.more()), len(handing.rest())], [5, "N0 : z", 4])

    def test_begun_anew(self):
        for kind, steady in itertools.product(KINDS, [True, False]):
            shelf = shelf_of(kind, ROWS)
            handing = Handing(shelf, "instances", term("f A B"), steady=steady)
            handing.more()
            shelf.put(term("f g A B"), "later")
            shelf.take(term("f A B"), "one")
            self.assertIsNone(handing.begin_anew())
            self.assertEqual([handing.given(), handing.left()], [0, 4])
            self.assertEqual([str(handing.more()) for _ in range(2)], ["f N0 N0 : a", "f N0 N1 : two"])
            self.assertEqual([str(answer) for answer in handing.rest()], ["f g N0 N1 : later", "f c N0 : b"])
            handing.begin_anew()
            self.assertEqual([handing.given(), handing.left()], [0, 4])
            shelf.put(term("c"), "x")
            if steady:
                self.assertEqual(len(handing.rest()), 4)
            else:
                self.refused(errors.Changed, "many", 1, handing.rest)
                handing.begin_anew()
                self.assertEqual(len(handing.rest()), 4)

    def test_two_handings_have_nothing_in_common(self):
        shelf = shelf_of(KINDS[0], ROWS)
        one, other = [Handing(shelf, "meets", term("f A B")) for _ in range(2)]
        one.rest()
        self.assertEqual([one.given(), other.given(), other.left()], [4, 0, 4])
        before = marked(shelf)
        other.more()
        other.begin_anew()
        self.assertEqual(marked(shelf), before)

    def test_refusals_one_behind_the_other(self):
        for kind in KINDS:
            shelf, other = shelf_of(kind, ROWS), term("A", OTHER)
            for thing in things_but(Shelf):
                self.found(errors.NoShelf, thing, Handing, thing, None, None, steady=None)
            for thing in any_things() + ["Meets"]:
                self.found(errors.NoWay, thing, Handing, shelf, thing, None, steady=None)
            for way in WAYS:
                for thing in things_but(Term):
                    self.found(errors.NoTerm, thing, Handing, shelf, way, thing, steady=None)
                self.found(errors.Unlike, other, Handing, shelf, way, other, steady=None)
                self.refused(errors.TooGreat, "many", 17, Handing, shelf, way, great("A", 17), steady=None)
            for thing in things_but(bool):
                self.found(errors.NoTruth, thing, Handing, shelf, "meets", term("A"), steady=thing)


class Tellers(Case):
    def test_tell_what_the_shelf_tells_then(self):
        for kind, way in itertools.product(KINDS, WAYS):
            shelf = shelf_of(kind, ROWS)
            tells = [teller(shelf, way), teller(shelf=shelf, way=way, limit=None), teller(shelf, way, limit=40)]
            two = teller(shelf, way, limit=2)
            for text in ("A", "f A B", "c", "f c c"):
                for told in tells:
                    self.assertEqual(told(term(text)), shelf.ask(way, term(text)))
                self.assertEqual(two(term(text)), shelf.ask(way, term(text))[:2])
            shelf.take(term("A"), "z")
            shelf.put(term("f A B"), "later")
            for told in tells:
                self.assertEqual(told(term("f A B")), shelf.ask(way, term("f A B")))
            told = tells[0](term("f A B"))
            told.clear()
            self.assertNotEqual(tells[0](term("f A B")), [])

    def test_refusals_one_behind_the_other(self):
        shelf, other = shelf_of(KINDS[2], ROWS), term("A", OTHER)
        for thing in things_but(Shelf):
            self.found(errors.NoShelf, thing, teller, thing, None, limit=0)
        for thing in any_things():
            self.found(errors.NoWay, thing, teller, shelf, thing, limit=0)
        for thing in things_but(int, type(None)) + [True, False, 0, 41, -1]:
            self.found(errors.NoNumber, thing, teller, shelf, "meets", limit=thing)
        for way in WAYS:
            told = teller(shelf, way, limit=1)
            for thing in things_but(Term):
                self.found(errors.NoTerm, thing, told, thing)
            self.found(errors.Unlike, other, told, other)
            self.refused(errors.TooGreat, "many", 17, told, great("A", 17))
            self.assertLessEqual(len(told(self.sixteen())), 1)


if __name__ == "__main__":
    unittest.main()
