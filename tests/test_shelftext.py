"""Shelves as whole texts: points 114 and 115."""

import itertools
import re
import unittest

from termshelf import errors
from termshelf.shelftext import shelf_of as read
from termshelf.shelftext import shelf_text
from termshelf.shelves import Shelf
from termshelf.signs import Words
from tests.samples import KINDS, LIKE, WAYS, WIDE, WORDS
from tests.samples import Case, Chance, any_things, great, marked, shelf_of, term, things_but
from tests.test_cutting import KIND_OF, ROWS, drawn_shelf, kept

HEAD = ["shelf plain 40", "words f 2 g 1 c 0"]
WORD_OF = {kind: word for word, kind in KIND_OF.items()}
LONG = Words([(first * 8, places) for first, places in zip("abcdefghijkl", [4, 3, 2, 1] + [0] * 8)])


def text_of(*rows):
    return "\n".join(HEAD + list(rows))


def full(kind):
    """A shelf that keeps forty terms of sixteen signs, or nearly as many, of long names, each with eight notes."""
    chance, told = Chance(115), kind(LONG)
    while len(told) < 40:
        made = term(chance.text(LONG, 16, ["Z98", "Z99"]), LONG)
        if len(made) > 12 and not told.has(made):
            for sign in "abcdefgh":
                told.put(made, sign * 8)
    return told


def are_signs(words, text):
    """Whether a text has the signs of one term of some words, told as a dict of names to places."""
    lacking = 1
    for sign in text.split(" "):
        letter = re.fullmatch("[A-Z](0|[1-9][0-9]?)?", sign) is not None
        if lacking == 0 or not (letter or sign in words):
            return False
        lacking += words.get(sign, 0) - 1
    return lacking == 0 and len(text.split(" ")) <= 16


def first_bad(text):
    """The number of the first row of a whole text that isn't as it should be, None where all are, by plain forms."""
    rows = text.split("\n") + [""] * (text.count("\n") == 0)
    if not re.fullmatch("shelf (plain|signs|puttings) ([1-9]|[123][0-9]|40)", rows[0]):
        return 0
    pairs = re.findall("([a-z]+) ([0-4])", rows[1][6:])
    if not re.fullmatch("words( [a-z]{1,8} [0-4]){1,12}", rows[1]) or len(dict(pairs)) < len(pairs):
        return 1
    words = {name: int(places) for name, places in pairs}
    for at, row in enumerate(rows[2:]):
        found = re.fullmatch("term ([^ ]+(?: [^ ]+)*?) :((?: [a-z]{1,8}){1,8})", row)
        notes = found.group(2).split() if found else []
        if not found or not are_signs(words, found.group(1)) or len(set(notes)) < len(notes):
            return at + 2
    return None


class Written(Case):
    def test_ordinary_ones(self):
        for kind in KINDS:
            shelf = shelf_of(kind, ["f A c : one two"], Words([("f", 2), ("c", 0)]))
            self.assertEqual(shelf_text(shelf), f"shelf {WORD_OF[kind]} 40\nwords f 2 c 0\nterm f N0 c : one two")
            self.assertEqual(shelf_text(shelf=shelf), shelf_text(shelf))
            self.assertEqual(shelf_text(kind(WORDS, most=1)), f"shelf {WORD_OF[kind]} 1\nwords f 2 g 1 c 0")
            shelf = shelf_of(kind, ROWS, most=7)
            self.assertEqual(shelf_text(shelf).split("\n"), [
                f"shelf {WORD_OF[kind]} 7", "words f 2 g 1 c 0", "term N0 : z one", "term f N0 N0 : a",
                "term f N0 N1 : one two", "term f c N0 : b", "term g g N0 : three", "term c : one"])

    def test_refusals(self):
        for thing in things_but(Shelf):
            self.found(errors.NoShelf, thing, shelf_text, thing)


class Read(Case):
    def same(self, shelf, told):
        self.assertEqual([type(told), told.most(), kept(told)], [type(shelf), shelf.most(), kept(shelf)])
        self.assertEqual([told.words(), told.changes(), told.log()], [shelf.words(), 0, []])
        self.assertEqual(shelf_text(told), shelf_text(shelf))

    def test_what_is_written_is_read_as_the_same(self):
        chance = Chance(114)
        for number in range(60):
            words = chance.one_of([WORDS, WIDE, LONG])
            shelf = drawn_shelf(chance, chance.one_of(KINDS), words, chance.one_of([3, 39, 40]))
            before = marked(shelf)
            told = read(text=shelf_text(shelf))
            self.same(shelf, told)
            for way, text in itertools.product(WAYS, ["A", chance.text(words, 4, ["A", "B"])]):
                ask = term(text, words)
                self.assertEqual(told.ask(way, ask), shelf.ask(way, ask))
                self.assertEqual([told.walk(way, ask), told.barred(way, ask)],
                                 [shelf.walk(way, ask), shelf.barred(way, ask)])
            self.assertEqual(marked(shelf), before)
            if len(told) > 0:
                first = told.terms()[0]
                told.take(first, told.notes(first)[0])
                self.assertEqual([told.changes(), told.log(), marked(shelf)], [1, ["take"], before])

    def test_terms_in_another_order_and_with_other_letters(self):
        for word, kind in KIND_OF.items():
            rows = ["shelf " + word + " 3", "words f 2 g 1 c 0", "term c : one", "term f B Z99 : two one",
                    "term A : three"]
            told = read("\n".join(rows))
            self.assertEqual([type(told), told.most(), told.words()], [kind, 3, WORDS])
            self.assertEqual(kept(told), [("N0", ["three"]), ("f N0 N1", ["two", "one"]), ("c", ["one"])])
            self.assertEqual(shelf_text(told), "\n".join(rows[:2] + ["term N0 : three", "term f N0 N1 : two one",
                                                                     "term c : one"]))
            more = "\n".join(rows + ["term f A N0 : four"])
            self.assertEqual(kept(read(more))[1], ("f N0 N1", ["two", "one", "four"]))

    def test_shelves_without_terms_and_full_ones(self):
        for kind in KINDS:
            self.same(kind(LIKE), read(shelf_text(kind(LIKE))))
            shelf = full(kind)
            text = shelf_text(shelf)
            self.assertTrue(7000 < len(text) <= 14000)
            self.same(shelf, read(text))
            self.assertEqual(len(text.split("\n")), 42)

    def test_terms_of_sixteen_signs(self):
        text = text_of(f"term {self.sixteen()} : one")
        self.assertEqual(len(read(text)), 1)
        self.refused(errors.NoText, "row", 2, read, text_of(f"term {great('A', 17)} : one"))


class Refused(Case):
    def row(self, number, text):
        self.refused(errors.NoText, "row", number, read, text)

    def test_what_is_no_text(self):
        for thing in things_but(str):
            self.row(0, thing)

    def test_the_first_row(self):
        rows = HEAD[1:] + ["term"]
        for bad in ["", " ", "shelf", "shelf plain", "shelf plain 40 1", "shelf plain 41", "shelf plain 0",
                    "shelf plain 040", "shelf plain +4", "shelf plain x", "Shelf plain 40", "shelf puts 40",
                    "shelf Plain 40", "shelf plain  40", " shelf plain 40", "shelf plain 40 ", "shelf  plain 40",
                    "shelves plain 40", "plain shelf 40", "shelf plain 4.0", "shelf plain 1e1", "shelf PlainShelf 40"]:
            for behind in (rows, [], HEAD[1:], ["x"]):
                self.row(0, "\n".join([bad] + behind))
        for word, most in itertools.product(KIND_OF, range(1, 41)):
            told = read(f"shelf {word} {most}\nwords c 0")
            self.assertEqual([type(told), told.most(), len(told)], [KIND_OF[word], most, 0])

    def test_the_second_row(self):
        for bad in ["", " ", "words", "words c", "words c 0 d", "words c 5", "words c 00", "words c -1", "words C 0",
                    "words ninesigns 0", "words c 0 c 0", "words c 0 c 1", "words  c 0", "words c 0 ", " words c 0",
                    "word c 0", "words c x", "words 0 c", "words c1 0", "words A 0", "words c 0 d 1 c 2", "words f 10",
                    "words " + " ".join([f"{sign} 0" for sign in "abcdefghijklm"]), "words c 0 term", "term c : one"]:
            for behind in ([], ["x"], ["term c : one"]):
                self.row(1, "\n".join(HEAD[:1] + [bad] + behind))
        self.row(1, HEAD[0])
        self.row(1, HEAD[0] + "\n")
        told = read("shelf plain 1\nwords " + " ".join([f"{sign} {at % 5}" for at, sign in enumerate("lkjihgfedcba")]))
        self.assertEqual(str(told.words()), "l/0 k/1 j/2 i/3 h/4 g/0 f/1 e/2 d/3 c/4 b/0 a/1")

    def test_later_rows(self):
        bad = ["", " ", "term", "term :", "term c", "term c :", "term : one", "term c one", "term c : One", "term c : ",
               "term c  : one", " term c : one", "term c : one ", "term c : one  two", "term c: one", "term c :one",
               "term f A : one", "term c c : one", "term d : one", "term f c : one", "term A0 B : one",
               "term A00 : one",
               "term c : one one", "term c : a b a", "term c : a b c d e f g h i", "term c : ninesigns",
               "terms c : one",
               "Term c : one", "c : one", "term c : one :", "term c : : one", "term : c : one", "term c : one : two",
               "term ? : one", "term g : one", "term term : one", "words f 2 g 1 c 0", "term C : 1", "term c : A",
               f"term {'g ' * 16}c : one"]
        for row, ahead, behind in itertools.product(bad, (0, 1, 3), (0, 1, 2)):
            good = ["term c : one", "term A : a b c d e f g h", "term f A B : one"]
            self.row(2 + ahead, text_of(*good[:ahead], row, *([""] * behind)))
        self.row(2, text_of(""))
        self.row(3, text_of("term c : one", ""))

    def test_the_first_row_that_is_not_as_told(self):
        self.row(0, "x\nx\nx")
        self.row(1, "shelf plain 1\nx\nx")
        self.row(3, text_of("term c : one", "x", "y"))
        # Rows of which none is wrong by itself are put in behind all that.
        self.row(5, text_of("term c : one", "term c : one", "term A : one", "x"))

    def test_put_in_behind_all_that(self):
        for word in KIND_OF:
            head = [f"shelf {word} 2", HEAD[1]]
            rows = ["term c : one", "term f A B : one two", "term f B A : three", "term c : two one", "term A : x"]
            self.twice("one", "\n".join(head + rows))
            self.refused(errors.TooMany, "many", 3, read, "\n".join(head + rows[:3] + rows[4:]))
            self.assertEqual(kept(read("\n".join(head + rows[:3]))),
                             [("f N0 N1", ["one", "two", "three"]), ("c", ["one"])])
            nine = ["term c : a b c d e f g", "term c : h i", "term A : x", "term g A : x"]
            self.refused(errors.TooMany, "many", 9, read, "\n".join(head + nine))
            twice = ["term c : a b c d e f g h", "term c : a i"]
            self.twice("a", "\n".join(head + twice))

    def twice(self, note, text):
        with self.assertRaises(errors.Twice) as caught:
            read(text)
        self.assertIs(type(caught.exception), errors.Twice)
        self.assertEqual(caught.exception.found, note)

    def looked_at(self, text):
        """Held against the plain forms; told is whether it was read."""
        number = first_bad(text)
        if number is not None:
            self.row(number, text)
            return False
        try:
            told = read(text)
        except (errors.Twice, errors.TooMany):
            return False
        self.assertEqual(read(shelf_text(told)), told)
        return True

    def test_each_sign_otherwise(self):
        text = "shelf signs 37\nwords f 2 c 0\nterm f N0 c : one two\nterm c : a"
        seen = [self.looked_at(text)]
        others = [" ", "\n", ":", "?", "a", "A", "0", "3", "f", "c", "~", ""]
        for at, other in itertools.product(range(len(text) + 1), others):
            seen.append(self.looked_at(text[:at] + other + text[at + 1:]))
            seen.append(self.looked_at(text[:at] + other + text[at:]))
        self.assertGreater(min(seen.count(True), seen.count(False)), 100)

    def test_parts_moved_about(self):
        parts = ["shelf", "puttings", "4", "\n", "words", "f", "2", "c", "0", "\n", "term", "f", "A", "c", ":", "one"]
        for one, other in itertools.combinations(range(len(parts)), 2):
            moved = list(parts)
            moved[one], moved[other] = moved[other], moved[one]
            self.looked_at(" ".join(moved).replace(" \n ", "\n"))
            self.looked_at(" ".join(parts[:one] + parts[other:]).replace(" \n ", "\n"))
            self.looked_at(" ".join(parts[:other] + parts[one:]).replace(" \n ", "\n"))

    def test_any_texts(self):
        for thing in [thing for thing in any_things() if isinstance(thing, str)]:
            self.row(0, thing)


if __name__ == "__main__":
    unittest.main()
