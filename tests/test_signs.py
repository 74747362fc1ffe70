"""Words: points 2 and 21."""

import unittest

from termshelf.errors import NoWords, NotThere
from termshelf.signs import Words
from tests.samples import LAST, LIKE, OTHER, ROWS, WORDS, Case, any_things

MANY = [(name, number % 5) for number, name in enumerate("abcdefghijklm")]


class Made(Case):
    def test_of_lists_and_tuples_of_one_to_twelve(self):
        self.assertEqual(Words([("a", 0)]).names(), ["a"])
        self.assertEqual(Words((("a", 4),)).places("a"), 4)
        self.assertEqual(Words(rows=ROWS).names(), ["f", "g", "c"])
        self.assertEqual(Words([("abcdefgh", 0)]).names(), ["abcdefgh"])
        self.assertEqual(len(Words(MANY[:12])), 12)
        self.found(NoWords, MANY, Words, MANY)

    def test_what_is_none_such_is_refused(self):
        for rows in [[], (), [["f", 2]], [("f",)], [("f", 2, 0)], [("f", 5)], [("f", -1)], [("f", True)],
                     [("f", False)],
                     [("f", None)], [("f", "2")], [(2, "f")], [("F", 2)], [("", 2)], [("abcdefghi", 2)], [("f1", 2)],
                     [("f", 2), ("f", 1)], [("f", 2), ("g", 1), ("f", 2)], [("f", 2), None], [("f", 2), []],
                     {"f": 2}, {("f", 2): 1}, ("f", 2), [[("f", 2)]], [("f", [2])], [(["f"], 2)], [("f", {})], "f/2"]:
            self.found(NoWords, rows, Words, rows)

    def test_any_thing_is_refused_that_is_no_words(self):
        for thing in any_things():
            if thing not in ([("f", 2)], (("f", 2),)):
                self.found(NoWords, thing, Words, thing)

    def test_the_list_is_kept_as_a_copy(self):
        rows = [("f", 2), ("g", 1)]
        words = Words(rows)
        rows.append(("c", 0))
        rows[0] = ("x", 0)
        self.assertEqual(words.names(), ["f", "g"])
        self.assertEqual(words, Words([("f", 2), ("g", 1)]))


class Told(Case):
    def test_names_places_and_order(self):
        self.assertEqual(WORDS.names(), ["f", "g", "c"])
        self.assertEqual([WORDS.places(name) for name in "fgc"], [2, 1, 0])
        self.assertEqual([WORDS.place_of(name) for name in "fgc"], [0, 1, 2])
        self.assertEqual([OTHER.place_of(name="f"), OTHER.places(name="f")], [1, 2])
        self.assertEqual([len(WORDS), len(LAST)], [3, 4])

    def test_names_are_a_new_list(self):
        WORDS.names().append("x")
        WORDS.names()[0] = "x"
        self.assertEqual(WORDS.names(), ["f", "g", "c"])

    def test_of_any_thing_whether_it_is_a_name_of_theirs(self):
        for name in "fgc":
            self.told(True, WORDS.has(name))
        for thing in ["d", "F", "fg", "f ", ""] + [thing for thing in any_things() if thing not in ("f", "c")]:
            self.told(False, WORDS.has(thing=thing))

    def test_what_is_no_name_of_theirs_is_refused(self):
        for thing in ["d", "", ["f"], ("f",)] + [thing for thing in any_things() if thing not in ("f", "c")]:
            self.found(NotThere, thing, WORDS.places, thing)
            self.found(NotThere, thing, WORDS.place_of, thing)

    def test_as_a_text(self):
        self.assertEqual(str(WORDS), "f/2 g/1 c/0")
        self.assertEqual(str(Words([("a", 4)])), "a/4")
        self.assertIsInstance(repr(WORDS), str)

    def test_equal_just_to_words_of_the_same_rows_in_the_same_order(self):
        others = [OTHER, LAST, Words([("f", 2), ("g", 1)]), Words([("f", 2), ("g", 1), ("c", 1)]), Words([("f", 2)]),
                  Words([("f", 2), ("g", 1), ("d", 0)]), ROWS, tuple(ROWS), str(WORDS), dict(ROWS), ["f", "g", "c"]]
        self.equal_just(WORDS, [WORDS, LIKE, Words(list(ROWS))], others)
        self.equal_just(WORDS, [], [thing for thing in any_things() if thing is not WORDS])


if __name__ == "__main__":
    unittest.main()
