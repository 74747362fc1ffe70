"""Deeds done together, the log, and long histories of puts and takes: points 9 and 59."""

import itertools
import unittest

from termshelf import errors
from termshelf.shelves import PlainShelf
from termshelf.terms import Term
from tests import plain, plainshelves
from tests.samples import KINDS, OTHER, WAYS, WORDS, Case, Chance, great, marked, shelf_of, term, things_but
from tests.test_asks import Looks

ROWS = ["f A B : one two", "c : one"]
GOOD = [("put", term("A"), "a"), ("put", term("B"), "b"), ("take", term("f A B"), "one"), ("take", term("c"), "one"),
        ("put", term("c"), "two"), ("take", term("f B A"), "two")]


def told(shelf):
    """All that a shelf tells, but for its log."""
    kept = [(str(kept), shelf.notes(kept)) for kept in shelf.terms()]
    asked = [[str(answer) for answer in shelf.ask(way, term("f A B"))] for way in WAYS]
    walks = [shelf.walk(way, term("f A B")) for way in WAYS]
    return [str(shelf), kept, shelf.changes(), asked, walks]


class Together(Case):
    def test_all_are_done(self):
        for kind in KINDS:
            shelf = shelf_of(kind, ROWS)
            self.assertEqual(shelf.all_deeds(GOOD), 6)
            self.assertEqual([str(kept) for kept in shelf.terms()], ["N0", "c"])
            self.assertEqual([shelf.notes(term("Z")), shelf.notes(term("c"))], [["a", "b"], ["two"]])
            deeds = ["begin"] + [deed for deed, _, _ in GOOD] + ["end"]
            self.assertEqual([shelf.changes(), shelf.log()], [9, ["put"] * 3 + deeds])
            for rows in ([], ()):
                self.assertEqual(shelf.all_deeds(rows=rows), 0)
            self.assertEqual(shelf.log()[-4:], ["begin", "end", "begin", "end"])
            self.assertEqual(shelf.all_deeds(tuple(GOOD[:0]) + (("put", term("c"), "a"),)), 1)
            self.assertEqual(shelf.notes(term("c")), ["two", "a"])

    def test_a_hundred(self):
        for kind in KINDS:
            shelf = kind(WORDS)
            rows = [("put", term("c"), "a"), ("take", term("c"), "a")] * 50
            self.assertEqual(shelf.all_deeds(rows), 100)
            self.assertEqual([shelf.changes(), len(shelf)], [100, 0])
            self.found(errors.NoList, more := rows + rows[:1], shelf.all_deeds, more)

    def test_each_refusal_takes_all_back(self):
        other, wide = term("A", OTHER), great("A", 17)
        refused = [
            (("put", None, "one"), errors.NoTerm, "found", None), (("take", "A", 1), errors.NoTerm, "found", "A"),
            (("put", other, "one"), errors.Unlike, "found", other),
            (("take", other, ""), errors.Unlike, "found", other),
            (("put", wide, ""), errors.TooGreat, "many", 17), (("take", wide, ""), errors.NoNote, "found", ""),
            (("put", term("A"), "A"), errors.NoNote, "found", "A"),
            (("take", wide, "a"), errors.NotThere, "found", wide),
            (("put", term("c"), "one"), errors.Twice, "found", "one"),
            (("put", term("A"), "a"), errors.TooMany, "many", 4)]
        for kind, ahead, (deed, error, field, value) in itertools.product(KINDS, range(4), refused):
            shelf = shelf_of(kind, ROWS + ["g A : z"], most=3)
            rows = [("put", term("f A B"), "q"), ("take", term("f A B"), "one"), ("take", term("f A B"), "two")][:ahead]
            before, log = told(shelf), shelf.log()
            self.refused(error, field, value, shelf.all_deeds, rows + [deed, ("put", term("A"), "one")])
            self.assertEqual(told(shelf), before)
            self.assertEqual(shelf.log(), log + ["begin"] + [row[0] for row in rows] + ["back", "end"])

    def test_what_was_done_is_taken_back_in_its_place(self):
        for kind, many in itertools.product(KINDS, range(len(GOOD) + 1)):
            shelf = shelf_of(kind, ["f A B : one two three", "c : one"])
            shelf.put(term("f A B"), "four")
            before = told(shelf)
            bad = GOOD[:many] + [("take", term("f A A"), "one")]
            self.found(errors.NotThere, bad[-1][1], shelf.all_deeds, bad)
            self.assertEqual(told(shelf), before)
            self.assertEqual(shelf.notes(term("f A B")), ["one", "two", "three", "four"])
            for note in ("one", "four", "two", "three"):
                rows = [("take", term("f A B"), note), ("put", term("f A B"), note), ("take", term("f A B"), "none")]
                self.found(errors.NotThere, "none", shelf.all_deeds, rows)
                self.assertEqual(told(shelf), before)
            gone = [("take", term("f A B"), note) for note in ("two", "one", "four", "three")]
            for long in range(5):
                self.found(errors.NoNote, "", shelf.all_deeds, gone[:long] + [("put", term("c"), "")])
                self.assertEqual(told(shelf), before)

    def test_refusals_ahead_of_all_deeds(self):
        for kind in KINDS:
            shelf = shelf_of(kind, ROWS)
            before = marked(shelf)
            for thing in things_but(list, tuple) + [GOOD[:1] * 101]:
                self.found(errors.NoList, thing, shelf.all_deeds, thing)
            good = ("put", term("A"), "a")
            for thing in [None, True, "put", [], (), list(good), good[:2], good + ("a",), ("Put",) + good[1:], {},
                          (None,) + good[1:], (True,) + good[1:], ("",) + good[1:], (term("A"),) + good[1:],
                          (["put"],) + good[1:], ("drop",) + good[1:]]:
                for ahead in (0, 1, 5):
                    rows = [("put", None, None)] * ahead + [thing, None]
                    self.refused(errors.NoDeed, "at", ahead, shelf.all_deeds, rows)
                    self.refused(errors.NoDeed, "at", ahead, shelf.all_deeds, tuple(rows))
            self.assertEqual(marked(shelf), before)

    def test_terms_and_notes_are_looked_at_as_their_deeds_come(self):
        for kind in KINDS:
            shelf = shelf_of(kind, ROWS)
            self.found(errors.Twice, "one", shelf.all_deeds, [("put", term("c"), "one"), ("put", None, None)])
            for thing in things_but(Term):
                self.found(errors.NoTerm, thing, shelf.all_deeds, [("put", term("g A"), "one"), ("put", thing, None)])
            self.told(False, shelf.has(term("g A")))

    def test_rows_stay_as_they_were(self):
        for kind in KINDS:
            rows = list(GOOD)
            shelf = shelf_of(kind, ROWS)
            shelf.all_deeds(rows)
            self.assertEqual(marked(rows), marked(GOOD))
            rows.clear()
            self.assertEqual(shelf.changes(), 9)


class Histories(Looks):
    """The same long rows of puts and takes on shelves of all kinds, held against a plain dict of notes."""

    def row(self, chance, kept):
        text = chance.one_of(list(kept)) if kept and chance.one_of([True, False]) else chance.text(WORDS, 9, ["A", "B"])
        return (chance.one_of(["put", "put", "take"]), term(text), chance.one_of(["a", "b", "c", "d", "e"]))

    def done(self, kept, row, most):
        """Whether a deed is done to a dict of notes."""
        deed, made, note = row
        text = " ".join(plain.signs_of(plain.normal(plain.tree(made))))
        if deed == "put":
            if note in kept.get(text, []) or (text not in kept and len(kept) == most):
                return False
            kept.setdefault(text, []).append(note)
            return True
        if note not in kept.get(text, []):
            return False
        kept[text].remove(note)
        if not kept[text]:
            del kept[text]
        return True

    def one_by_one(self, shelves, kept, rows, most):
        many = 0
        for row in rows:
            done = self.done(kept, row, most)
            many += done
            for shelf in shelves:
                deed = shelf.put if row[0] == "put" else shelf.take
                if done:
                    deed(*row[1:])
                else:
                    with self.assertRaises((errors.TermError, errors.Absent)):
                        deed(*row[1:])
        return many

    def together(self, shelves, kept, rows, most):
        after = {text: list(notes) for text, notes in kept.items()}
        good = all([self.done(after, row, most) for row in rows])
        for shelf in shelves:
            if good:
                self.assertEqual(shelf.all_deeds(rows), len(rows))
            else:
                with self.assertRaises((errors.TermError, errors.Absent)):
                    shelf.all_deeds(rows)
        if good:
            kept.clear()
            kept.update(after)
        return len(rows) if good else 0

    def test_all_kinds_go_alike(self):
        for seed in range(12):
            chance = Chance(seed)
            most = chance.one_of([3, 8, 40])
            shelves = [kind(WORDS, most=most) for kind in KINDS]
            kept, changes = {}, 0
            for number in range(25):
                rows = [self.row(chance, kept) for _ in range(1 + number % 4)]
                changes += chance.one_of([self.one_by_one, self.together])(shelves, kept, rows, most)
                trees = [plain.tree(term(text)) for text in kept]
                order = [" ".join(plain.signs_of(tree)) for tree in plainshelves.in_order(WORDS, trees)]
                for shelf in shelves:
                    self.assertEqual([(str(made), shelf.notes(made)) for made in shelf.terms()],
                                     [(text, kept[text]) for text in order])
                    self.assertEqual([shelf.changes(), shelf.log(), shelf], [changes, shelves[0].log(), shelves[0]])
                    self.assertEqual(shelf.copied(), shelf)
            for way, text in itertools.product(WAYS, ["A", "f A B", chance.text(WORDS, 9, ["A", "B"])]):
                for shelf in shelves:
                    self.looked_at(shelf, way, term(text))
                self.all_alike(shelves, way, term(text))
                self.all_alike([shelf.copied() for shelf in shelves], way, term(text))


if __name__ == "__main__":
    unittest.main()
