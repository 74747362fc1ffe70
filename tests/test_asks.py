"""What shelves of each kind answer: points 55 to 58, 67 and 76, and that all kinds tell the same."""

import itertools
import unittest

from termshelf import errors
from termshelf.answers import Answer
from termshelf.nomatch import shows_not, why_not
from termshelf.shelves import PlainShelf
from termshelf.signs import Words
from termshelf.terms import Term
from tests import plain, plainshelves
from tests.samples import KINDS, LIKE, OTHER, WAYS, WIDE, WORDS
from tests.samples import Case, Chance, any_things, great, marked, shelf_of, term, terms_of, things_but

ROWS = ["A : z", "f A B : one two", "f A A : a", "f c A : b a", "f A g A : c", "g A : d", "g g c : e f", "c : one"]
SMALL = [text for text in terms_of(5, ["N0", "N1"]) if term(text).is_normal()]


def fives(answers):
    """All five parts of answers, as texts."""
    told = []
    for answer in answers:
        putting = [str(answer.asked()), str(answer.keeping())]
        told.append([str(answer.kept()), answer.notes()] + putting + [str(answer.whole())])
    return told


class Looks(Case):
    """How the answers of a shelf are held against plain ones."""

    def looked_at(self, shelf, way, ask):
        """One ask of one shelf, all that it tells."""
        words = shelf.words()
        trees = {str(kept): plain.tree(kept) for kept in shelf.terms()}
        asked = plain.tree(ask)
        wanted = [kept for kept in shelf.terms() if plainshelves.tells(way, asked, trees[str(kept)])]
        answers = shelf.ask(way, ask)
        self.assertEqual([answer.kept() for answer in answers], wanted)
        for answer in answers:
            self.assertIs(type(answer), Answer)
            self.assertEqual(answer.notes(), shelf.notes(answer.kept()))
            whole, asking, keeping = plainshelves.answer(way, asked, trees[str(answer.kept())])
            self.assertEqual(plain.tree(answer.whole()), whole)
            for told, putting in ((asking, answer.asked()), (keeping, answer.keeping())):
                self.assertEqual({letter: plain.tree(putting.given(letter)) for letter in putting.letters()}, told)
                self.assertEqual(putting.words(), words)
        barred = shelf.barred(way, ask)
        self.assertEqual([kept for kept, _ in barred], [kept for kept in shelf.terms() if kept not in wanted])
        for kept, paper in barred:
            self.assertEqual(paper, why_not(way, ask, kept))
            self.told(True, shows_not(way, ask, kept, paper))
        self.assertEqual(fives(shelf.ask(way, ask)), fives(answers))
        self.assertEqual(shelf.barred(way, ask), barred)
        self.assertEqual(shelf.walk(way, ask), shelf.walk(way, ask))

    def all_alike(self, shelves, way, ask):
        """Shelves of all kinds with the same terms."""
        first = shelves[0]
        most = 1 + sum(len(kept) for kept in first.terms())
        for shelf in shelves:
            self.assertEqual(fives(shelf.ask(way, ask)), fives(first.ask(way, ask)))
            self.assertEqual(repr(shelf.barred(way, ask)), repr(first.barred(way, ask)))
            self.assertLessEqual(shelf.steps(way, ask), most)
            self.assertGreaterEqual(shelf.steps(way, ask), 0)
        self.assertEqual(shelves[0].steps(way, ask), most)
        self.assertEqual(shelves[1].steps(way, ask), len(shelves[1].walk(way, ask)))
        self.assertEqual(shelves[2].steps(way, ask), len(shelves[2].walk(way, ask)))


class Told(Looks):
    def test_ordinary_ones(self):
        for kind in KINDS:
            shelf = shelf_of(kind, ROWS)
            for way, ask, told in [
                    ("instances", "f A A", ["f N0 N0 : a"]), ("instances", "g A", ["g N0 : d", "g g c : e f"]),
                    ("instances", "f A B", ["f N0 N0 : a", "f N0 N1 : one two", "f N0 g N0 : c", "f c N0 : b a"]),
                    ("above", "f c c", ["N0 : z", "f N0 N0 : a", "f N0 N1 : one two", "f c N0 : b a"]),
                    ("above", "f A A", ["N0 : z", "f N0 N0 : a", "f N0 N1 : one two"]),
                    ("meets", "f A A", ["N0 : z", "f N0 N0 : a", "f N0 N1 : one two", "f c N0 : b a"]),
                    ("meets", "g f A A", ["N0 : z", "g N0 : d"]), ("variants", "f Z9 Z", ["f N0 N1 : one two"]),
                    ("variants", "f c c", []), ("variants", "A", ["N0 : z"])]:
                self.assertEqual([str(answer) for answer in shelf.ask(way, term(ask))], told)
                self.assertEqual([str(answer) for answer in shelf.ask(term=term(ask, LIKE), way=way)], told)

    def test_all_small_terms(self):
        shelves = [shelf_of(kind, [f"{text} : one" for text in SMALL[:40]]) for kind in KINDS]
        for way, ask in itertools.product(WAYS, terms_of(3) + terms_of(4)[-30:]):
            for shelf in shelves:
                self.looked_at(shelf, way, term(ask))
            self.all_alike(shelves, way, term(ask))

    def test_terms_by_chance(self):
        chance = Chance(17)
        for number in range(60):
            words = chance.one_of([WORDS, WIDE])
            rows = [f"{chance.text(words, 16, ['A', 'B', 'C'])} : one" for _ in range(number % 41)]
            rows = list({str(term(row[:-6], words).normal()): row for row in rows}.values())
            shelves = [shelf_of(kind, rows, words) for kind in KINDS]
            asks = [term(chance.text(words, 16, ["A", "N0", "N1"]), words) for _ in range(2)]
            asks += shelves[0].terms()[:2]
            for way, ask in itertools.product(WAYS, asks):
                for shelf in shelves:
                    self.looked_at(shelf, way, ask)
                self.all_alike(shelves, way, ask)

    def test_great_terms(self):
        for kind in KINDS:
            shelf = shelf_of(kind, [f"{self.sixteen()} : one", "f A A : two"])
            self.looked_at(shelf, "meets", self.sixteen())
            self.looked_at(shelf, "above", self.sixteen())
            self.looked_at(shelf, "variants", term(str(self.sixteen()).replace("A", "B")))

    def test_with_other_names_all_is_told_likewise(self):
        names = {"f": "a", "g": "zz", "c": "m", "A": "Z9", "B": "A", "z": "note"}
        words = Words([(names[name], WORDS.places(name)) for name in WORDS.names()])

        def renamed(text):
            return " ".join([names.get(sign, sign) for sign in text.split(" ")])

        for kind, way, ask in itertools.product(KINDS, WAYS, ["A", "f A B", "f A A", "g A", "f A c"]):
            shelf, other = shelf_of(kind, ROWS), shelf_of(kind, [renamed(row) for row in ROWS], words)
            self.assertEqual([renamed(str(kept)) for kept in shelf.terms()], [str(kept) for kept in other.terms()])
            told = [renamed(str(answer)) for answer in shelf.ask(way, term(ask))]
            self.assertEqual([str(answer) for answer in other.ask(way, term(renamed(ask), words))], told)
            self.assertEqual(other.steps(way, term(renamed(ask), words)), shelf.steps(way, term(ask)))

    def test_limits(self):
        for kind in KINDS:
            shelf = shelf_of(kind, [f"{text} : one" for text in SMALL[:40]])
            for way, ask in itertools.product(WAYS, ["A", "f A B", "c", "g A"]):
                told = fives(shelf.ask(way, term(ask), limit=None))
                for limit in (1, 2, 39, 40):
                    self.assertEqual(fives(shelf.ask(way, term(ask), limit=limit)), told[:limit])
            self.assertEqual(len(shelf.ask("instances", term("A"), limit=40)), 40)

    def test_an_answer_stays_when_the_shelf_changes(self):
        for kind in KINDS:
            shelf = shelf_of(kind, ROWS)
            answers = shelf.ask("meets", term("f A B"))
            before = fives(answers)
            shelf.put(term("f A A"), "later")
            shelf.take(term("f A B"), "one")
            shelf.take(term("A"), "z")
            self.assertEqual(fives(answers), before)
            answers[0].notes().append("x")
            answers.clear()
            shelf.barred("meets", term("c")).clear()
            shelf.walk("meets", term("f A B")).clear()
            self.assertEqual(fives(shelf.ask("meets", term("f A B")))[0], ["f N0 N0", ["a", "later"]] + before[1][2:])

    def test_shelves_stay_as_they_were(self):
        for kind, way in itertools.product(KINDS, WAYS):
            shelf = shelf_of(kind, ROWS)
            before = marked(shelf)
            for ask in (shelf.ask, shelf.barred, shelf.walk, shelf.steps, shelf.need_ask, shelf.candidates):
                ask(way, term("f A g A"))
            self.assertEqual(marked(shelf), before)


class Walked(Case):
    def test_a_plain_list_goes_through_all(self):
        shelf = shelf_of(PlainShelf, ROWS)
        for way, ask, told in [("instances", "f A A", [2]), ("above", "f c c", [0, 1, 2, 4]), ("meets", "c", [0, 7])]:
            kept = [str(kept) for kept in shelf.terms()]
            self.assertEqual(kept, ["N0", "f N0 N0", "f N0 N1", "f N0 g N0", "f c N0", "g N0", "g g c", "c"])
            told = [str(answer.kept()) for answer in shelf.ask(way, term(ask))]
            walk = shelf.walk(way, term(ask))
            self.assertEqual(walk, [(number, text in told) for number, text in enumerate(kept)])
            self.assertEqual({type(truth) for _, truth in walk}, {bool})
            self.assertEqual(shelf.steps(way=way, term=term(ask)), 1 + 1 + 3 * 2 + 4 + 3 + 2 + 3 + 1)
        empty = PlainShelf(WORDS)
        self.assertEqual([empty.walk("meets", term("A")), empty.steps("meets", term("A"))], [[], 1])

    def test_candidates_have_all_that_is_told(self):
        for kind, way, ask in itertools.product(KINDS, WAYS, ["A", "f A A", "f c B", "g g c", "c"]):
            shelf = shelf_of(kind, ROWS)
            candidates = [str(kept) for kept in shelf.candidates(way, term(ask))]
            for answer in shelf.ask(way, term(ask)):
                self.assertIn(str(answer.kept()), candidates)
            for text in candidates:
                self.assertIn(text, [str(kept) for kept in shelf.terms()])

    def test_empty_ones(self):
        for kind in KINDS:
            shelf = shelf_of(kind, ROWS, most=9)
            empty = shelf.empty_one()
            self.assertIs(type(empty), kind)
            self.assertEqual([len(empty), empty.most(), empty.words(), len(shelf)], [0, 9, WORDS, 8])


class Refused(Case):
    def test_one_behind_the_other(self):
        for kind in KINDS:
            shelf = shelf_of(kind, ["g A : one"])
            before = marked(shelf)
            other, wide = term("A", OTHER), great("A", 17)
            asks = [shelf.ask, shelf.barred, shelf.walk, shelf.steps, shelf.need_ask]
            asks.append(lambda way, term: shelf.ask(way, term, limit=0))
            for ask in asks:
                for thing in any_things() + ["instance", "Meets", "MEETS", "instances "]:
                    self.found(errors.NoWay, thing, ask, thing, None)
                for way in WAYS:
                    for thing in things_but(Term):
                        self.found(errors.NoTerm, thing, ask, way, thing)
                    self.found(errors.Unlike, other, ask, way, other)
                    self.refused(errors.TooGreat, "many", 17, ask, way, wide)
                    self.refused(errors.TooGreat, "many", 9999, ask, way, great("A", 9999))
            for thing in things_but(int, type(None)) + [True, False, 0, 41, -1, 10 ** 30 - 1]:
                self.found(errors.NoNumber, thing, shelf.ask, "meets", term("A"), limit=thing)
            self.assertIsNone(shelf.need_ask("meets", self.sixteen()))
            self.assertEqual(marked(shelf), before)


if __name__ == "__main__":
    unittest.main()
