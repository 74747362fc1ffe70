"""Answers: what points 55 and 56 tell of one kept term."""

import itertools
import unittest

from termshelf.answers import Answer, answer_of
from termshelf.nomatch import why_not
from termshelf.puttings import matched, meeting
from tests.samples import OTHER, Case, Chance, any_things, marked, putting, term, terms_of

ALL = terms_of(4)
KEPT = [text for text in terms_of(4, ["N0", "N1"]) if term(text).is_normal()]
WAYS = ["instances", "above", "meets", "variants"]


def themselves(made):
    return putting({letter: letter for letter in made.letters()}, made.words())


def texts_of(answer):
    return [str(answer.asked()), str(answer.keeping()), str(answer.whole())]


class Told(Case):
    def test_by_each_way(self):
        for way, ask, kept, told in [
                ("instances", "f A B", "f g N0 N1", ["A = g N0; B = N1", "N0 = N0; N1 = N1", "f g N0 N1"]),
                ("instances", "A", "c", ["A = c", "", "c"]), ("instances", "c", "N0", None),
                ("above", "f A g B", "f N0 N1", ["A = A; B = B", "N0 = A; N1 = g B", "f A g B"]),
                ("above", "A", "c", None), ("above", "f A A", "N0", ["A = A", "N0 = f A A", "f A A"]),
                ("meets", "f A g A", "f g N0 N1", ["A = g N0", "N0 = N0; N1 = g g N0", "f g N0 g g N0"]),
                ("meets", "f A A", "f N0 g N0", None), ("meets", "f A c", "f c N0", ["A = c", "N0 = c", "f c c"]),
                ("variants", "f B A", "f N0 N1", ["A = N1; B = N0", "N0 = N0; N1 = N1", "f N0 N1"]),
                ("variants", "f A B", "f N0 N0", None), ("variants", "f A A", "f N0 N1", None)]:
            answer = answer_of(way, term(ask), term(kept), ["one"])
            self.assertEqual(None if answer is None else texts_of(answer), told)
            self.assertEqual(answer, answer_of(way=way, ask=term(ask), kept=term(kept), notes=["one"]))

    def looked_at(self, way, ask, kept):
        answer = answer_of(way, ask, kept, ["one", "two"])
        self.assertEqual(answer is None, why_not(way, ask, kept) is not None)
        if answer is None:
            return
        self.assertIs(type(answer), Answer)
        self.assertEqual([answer.kept(), answer.notes()], [kept, ["one", "two"]])
        self.assertEqual(set(answer.asked().letters()), set(ask.letters()))
        self.assertEqual(set(answer.keeping().letters()), set(kept.letters()))
        self.assertEqual(answer.asked().put(ask), answer.whole())
        self.assertEqual(answer.keeping().put(kept), answer.whole())
        if way == "meets":
            self.assertEqual((answer.whole(), answer.asked(), answer.keeping()), meeting(ask, kept))
        elif way == "above":
            self.assertEqual([answer.whole(), answer.asked()], [ask, themselves(ask)])
            self.assertEqual(answer.keeping(), matched(kept, ask))
        else:
            self.assertEqual([answer.whole(), answer.keeping()], [kept, themselves(kept)])
            self.assertEqual(answer.asked(), matched(ask, kept))

    def test_all_small_terms(self):
        for way, ask, kept in itertools.product(WAYS, ALL, KEPT):
            self.looked_at(way, term(ask), term(kept))

    def test_terms_by_chance(self):
        chance = Chance(7)
        for _ in range(400):
            ask, kept = chance.pair()
            for way in WAYS:
                self.looked_at(way, ask, kept.normal())
                self.looked_at(way, ask, ask.normal())

    def test_as_a_text(self):
        for notes, text in [(["one"], "f N0 c : one"), (["one", "two", "a"], "f N0 c : one two a")]:
            for way in WAYS:
                self.assertEqual(str(answer_of(way, term("f B c"), term("f N0 c"), notes)), text)
        self.assertIsInstance(repr(answer_of("meets", term("A"), term("N0"), ["a"])), str)


class Equal(Case):
    def test_where_all_five_are(self):
        answer = answer_of("meets", term("f A c"), term("f N0 N1"), ["one", "two"])
        like = [answer, answer_of("meets", term("f A c"), term("f N0 N1"), ("one", "two"))]
        others = [answer_of("meets", term("f A c"), term("f N0 N1"), notes)
                  for notes in (["one"], ["two", "one"], ["one", "b"], [])]
        others += [answer_of("meets", term("f A c"), term("f N0 c"), ["one", "two"]),
                   answer_of("meets", term("f B c"), term("f N0 N1"), ["one", "two"]),
                   answer_of("above", term("f A c"), term("f N0 N1"), ["one", "two"]),
                   answer_of("meets", term("f A c"), term("N0"), ["one", "two"]),
                   answer_of("meets", term("f A c", OTHER), term("f N0 N1", OTHER), ["one", "two"]),
                   str(answer), [answer.kept(), ["one", "two"]]]
        self.equal_just(answer, like, others)
        self.equal_just(answer, [], any_things())

    def test_each_of_the_five_tells(self):
        kept, notes, asked, keeping, whole = term("N0"), ["one"], putting({"A": "A"}), putting({"N0": "A"}), term("A")
        answer = Answer(kept, notes, asked, keeping, whole)
        self.equal_just(answer, [Answer(term("N0"), ["one"], putting({"A": "A"}), putting({"N0": "A"}), term("A"))], [
            Answer(term("c"), notes, asked, keeping, whole), Answer(kept, ["two"], asked, keeping, whole),
            Answer(kept, notes, putting({"A": "B"}), keeping, whole), Answer(kept, notes, asked, putting({}), whole),
            Answer(kept, notes, asked, keeping, term("B"))])

    def test_another_way_with_the_same_five_is_equal(self):
        told = [answer_of(way, term("N0"), term("N0"), ["one"]) for way in WAYS]
        for one, other in itertools.product(told, repeat=2):
            self.told(True, one == other)


class Stays(Case):
    def test_notes_are_kept_as_a_copy_and_told_as_a_new_list(self):
        notes = ["one", "two"]
        answer = answer_of("meets", term("A"), term("c"), notes)
        notes.append("three")
        notes[0] = "x"
        answer.notes().clear()
        self.assertEqual(answer.notes(), ["one", "two"])
        self.assertIs(type(answer.notes()), list)
        self.assertIs(type(answer_of("meets", term("A"), term("c"), ("one",)).notes()), list)

    def test_what_is_asked_changes_nothing(self):
        ask, kept, notes = term("f A c"), term("f N0 N1"), ["one"]
        before = marked([ask, kept, notes])
        for way in WAYS:
            answer = answer_of(way, ask, kept, notes)
            self.assertEqual(answer, answer_of(way, term("f A c"), term("f N0 N1"), ["one"]))
            if answer is not None:
                self.assertEqual(texts_of(answer), texts_of(answer))
        self.assertEqual(marked([ask, kept, notes]), before)


if __name__ == "__main__":
    unittest.main()
