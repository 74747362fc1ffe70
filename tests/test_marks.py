"""Names, letters and numbers: points 2 and 11 to 14."""

import string
import unittest

from termshelf import marks
from termshelf.errors import NoLetter, NoNumber
from termshelf.marks import is_letter, is_name, is_spot, is_whole, letter_rank, normal_letter, number_in, rows_in
from termshelf.marks import words_in
from tests.samples import Case, any_things, marked, things_but

MOST = 10 ** 30 - 1
LETTERS = [capital + number for capital in string.ascii_uppercase
           for number in [""] + [str(number) for number in range(100)]]


class Whole(Case):
    def test_both_ends_are_counted(self):
        for thing, truth in [(2, False), (3, True), (4, True), (5, True), (6, False)]:
            self.told(truth, is_whole(thing, 3, 5))
        self.told(True, is_whole(thing=-1, low=-1, high=-1))
        self.told(True, is_whole(MOST, 0, MOST))
        self.told(False, is_whole(MOST, 0, MOST - 1))
        self.told(True, is_whole(-MOST, -MOST, 0))

    def test_none_is_where_low_is_greater(self):
        for thing in range(-2, 8):
            self.told(False, is_whole(thing, 5, 1))

    def test_truths_and_things_of_other_kinds_are_none(self):
        for thing in any_things():
            self.told(type(thing) is int, is_whole(thing, -MOST, MOST))


class Names(Case):
    def test_one_to_eight_small_letters(self):
        for thing in ["a", "z", "ab", "abcdefgh", "zzzzzzzz"] + list(string.ascii_lowercase):
            self.told(True, is_name(thing))

    def test_what_is_none(self):
        for thing in ["", "abcdefghi", "A", "aB", "a1", "a b", " a", "a ", "a\n", "\na", "a_b", "a-b", "?", "f/2", "`",
                      "{", "aaaaaaaaa" * 100]:
            self.told(False, is_name(thing))
        for thing in things_but(str):
            self.told(False, is_name(thing))


class Letters(Case):
    def test_one_capital_letter_perhaps_with_a_number(self):
        for thing in LETTERS:
            self.told(True, is_letter(thing))

    def test_what_is_none(self):
        for thing in ["", "a", "AA", "A00", "A01", "A09", "A007", "A100", "A999", "A-1", "A+1", "A 1", "A1 ", " A",
                      "A\n",
                      "A1B", "1", "1A", "a1", "@", "[", "A1.", "A_1", "A0x", "N" * 1000]:
            self.told(False, is_letter(thing))
        for thing in things_but(str):
            self.told(False, is_letter(thing))


class Spots(Case):
    def test_at_most_sixteen_numbers_from_0_to_3(self):
        for thing in [(), (0,), (3,), (0, 1, 2, 3), (3,) * 16]:
            self.told(True, is_spot(thing))

    def test_what_is_none(self):
        for thing in [(4,), (-1,), (0, 4), (4, 0), (0,) * 17, (True,), (0, False), [], [0], (None,), ("0",), ((0,),),
                      ((),), (MOST,), {}, {0: 1}, "", "0"]:
            self.told(False, is_spot(thing))
        for thing in things_but(tuple):
            self.told(False, is_spot(thing))


class Ranks(Case):
    def test_letters_are_ordered_as_told(self):
        ranks = [letter_rank(letter) for letter in LETTERS]
        self.assertTrue(all(isinstance(rank, tuple) for rank in ranks))
        self.assertEqual(ranks, sorted(ranks))
        self.assertEqual(len(set(ranks)), len(LETTERS))
        for early, late in [("A", "A0"), ("A0", "A1"), ("A2", "A10"), ("A99", "B"), ("B", "B0"), ("Z", "Z99")]:
            self.assertLess(letter_rank(early), letter_rank(late))
        self.assertEqual(letter_rank("A7"), letter_rank(letter="A7"))

    def test_what_is_no_letter_is_refused(self):
        for thing in ["a", "", "A00", "A100", "AB"] + [thing for thing in any_things() if not is_letter(thing)]:
            self.found(NoLetter, thing, letter_rank, thing)

    def test_letters_of_normal_terms(self):
        self.assertEqual([normal_letter(number) for number in (0, 7, 10, 99)], ["N0", "N7", "N10", "N99"])
        self.assertEqual(normal_letter(number=5), "N5")

    def test_what_is_no_such_number_is_refused(self):
        self.found(NoNumber, 100, normal_letter, 100)
        self.found(NoNumber, -1, normal_letter, -1)
        for thing in any_things():
            if type(thing) is not int or not 0 <= thing <= 99:
                self.found(NoNumber, thing, normal_letter, thing)


class Numbers(Case):
    def test_plainly_written_ones(self):
        for text, number in [("0", 0), ("1", 1), ("9", 9), ("10", 10), ("42", 42), ("9999", 9999)]:
            self.assertEqual(number_in(text), number)
            self.assertIs(type(number_in(thing=text)), int)
        self.assertEqual(marks.MOST_PLAIN, 9999)
        self.assertIsNone(number_in("10000"))

    def test_low_and_high_are_counted(self):
        self.assertEqual([number_in(str(number), low=2, high=4) for number in range(6)], [None, None, 2, 3, 4, None])
        self.assertEqual(number_in("5", low=5), 5)
        self.assertIsNone(number_in("4", low=5))
        self.assertEqual(number_in("12000", high=12000), 12000)
        self.assertIsNone(number_in("3", low=4, high=2))
        self.assertEqual(number_in("0", low=-5, high=0), 0)

    def test_numbers_of_thirty_figures(self):
        self.assertEqual(number_in("9" * 30, high=MOST), MOST)
        self.assertIsNone(number_in("1" + "0" * 30, high=10 ** 40))
        self.assertIsNone(number_in("9" * 31, high=10 ** 40))

    def test_what_writes_none(self):
        for thing in ["", "00", "01", "007", "-1", "+1", " 1", "1 ", "1\n", "1.0", "1e2", "1_0", "0x1", "a", "A1",
                      "--1"]:
            self.assertIsNone(number_in(thing), thing)
        for thing in things_but(str):
            self.assertIsNone(number_in(thing))


class Texts(Case):
    def test_words_with_one_blank_between(self):
        for words in [["f"], ["f", "A"], ["a", "b/2", "?", "~", "=;"], ["x"] * 500]:
            self.assertEqual(words_in(" ".join(words)), words)
        self.assertEqual(words_in(thing="f A"), ["f", "A"])

    def test_what_has_no_words(self):
        for thing in ["", " ", "  ", " a", "a ", "a  b", "\n", "a\n", "\na", "a b\n", "a\nb", "a b\nc d", "a \n b"]:
            self.assertIsNone(words_in(thing), thing)
        for thing in things_but(str):
            self.assertIsNone(words_in(thing))

    def test_rows_are_one_more_than_line_feeds(self):
        for text, rows in [("", [""]), ("\n", ["", ""]), ("a", ["a"]), ("a\n", ["a", ""]), ("\na", ["", "a"]),
                           (" a b \n\n c", [" a b ", "", " c"])]:
            self.assertEqual(rows_in(text), rows)
            self.assertEqual(len(rows_in(thing=text)), text.count("\n") + 1)
        for thing in things_but(str):
            self.assertIsNone(rows_in(thing))

    def test_lists_are_new_ones(self):
        for ask in (words_in, rows_in):
            told = ask("a b")
            told.append("c")
            self.assertNotEqual(ask("a b"), told)


class Stays(Case):
    def test_what_is_asked_of_stays_as_it_was_and_is_told_alike_again(self):
        asks = [is_name, is_letter, is_spot, words_in, rows_in, number_in, lambda thing: is_whole(thing, 0, 9)]
        for ask in asks:
            for thing in any_things():
                before = marked(thing)
                self.assertEqual(ask(thing), ask(thing))
                self.assertEqual(marked(thing), before)


if __name__ == "__main__":
    unittest.main()
