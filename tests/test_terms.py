"""Terms: points 3, 4 and 22 to 26."""

import itertools
import unittest

from termshelf import terms
from termshelf.errors import Beyond, NoList, NoNumber, NoSign, NoSigns, NoSpot, NoTerm, NoTruth, NoWords, Unended
from termshelf.errors import Unlike
from termshelf.signs import Words
from termshelf.terms import Term, ahead, in_order, term_of, variants
from tests import plain
from tests.samples import LAST, LIKE, OTHER, WIDE, WORDS, Case, Chance, any_things, great, great_signs, marked, term
from tests.samples import terms_of, things_but

ALL = terms_of(4)
DEEP = "g " * 200 + "c"


def leaning(many):
    """The 2 * many - 1 signs of f f f .. A c c c .., which is many - 1 deep."""
    return ["f"] * (many - 1) + ["A"] + ["c"] * (many - 1)


class Made(Case):
    def test_of_a_list_or_a_tuple_of_signs(self):
        self.assertEqual(Term(WORDS, ["f", "A", "g", "c"]).signs(), ["f", "A", "g", "c"])
        self.assertEqual(Term(WORDS, ("g", "B0")).signs(), ["g", "B0"])
        self.assertEqual(Term(words=WORDS, signs=["Z99"], most=1).signs(), ["Z99"])
        self.assertEqual(Term(WORDS, ["c"], most=9999).signs(), ["c"])

    def test_of_at_most_a_hundred_signs_or_as_many_as_are_told(self):
        signs = ["g"] * 99 + ["c"]
        self.assertEqual(terms.MOST_SIGNS, 100)
        self.assertEqual(len(Term(WORDS, signs)), 100)
        more = ["g"] + signs
        self.found(NoSigns, more, Term, WORDS, more)
        self.assertEqual(len(Term(WORDS, more, most=101)), 101)
        self.found(NoSigns, signs, Term, WORDS, signs, most=99)
        signs = great_signs("A", 9999)
        self.assertEqual(len(Term(WORDS, signs, most=9999)), 9999)
        self.found(NoSigns, signs, Term, WORDS, signs, most=9998)

    def test_what_are_no_words_is_refused_ahead_of_all(self):
        for thing in things_but(Words):
            self.found(NoWords, thing, Term, thing, None, most=None)
            self.found(NoWords, thing, Term, thing, ["c"])

    def test_the_most_is_a_number_from_1_to_9999(self):
        for thing in [0, 10000, -1, 10 ** 29] + things_but(int) + [True, False]:
            self.found(NoNumber, thing, Term, WORDS, ["c"], most=thing)
            self.found(NoNumber, thing, Term, WORDS, None, most=thing)

    def test_signs_are_a_list_of_texts(self):
        wrong = [[], (), None, "c", "f A c", {"c": 1}, ["f", "A", None], ["f", "A", ["c"]], [("f",)], ["c", 1], [True],
                 WORDS,
                 term("c"), ["x"] * 101, ["x"] * 110, ["c", term("c")], [[]]]
        for thing in wrong:
            self.found(NoSigns, thing, Term, WORDS, thing)
        for thing in things_but(list, tuple):
            self.found(NoSigns, thing, Term, WORDS, thing)

    def test_the_first_sign_that_is_none_is_told(self):
        for text, at in [("x", 0), ("f x y", 1), ("f A d", 2), ("c c x", 2), ("f A A00", 2), ("g A100", 1), ("F ff", 1),
                         ("f f x", 2), ("c A N x", 3), ("ff", 0), ("g ?", 1)]:
            self.refused(NoSign, "at", at, Term, WORDS, text.split(" "))
        for sign in ["", " ", "c ", " c", "f A", "\n", "a" * 1000]:
            self.refused(NoSign, "at", 1, Term, WORDS, ["g", sign])

    def test_the_first_sign_behind_the_end_is_told(self):
        for text, at in [("c c", 1), ("A B C", 1), ("f A B c", 3), ("g c g", 2), ("f g A c f A", 4)]:
            self.refused(Beyond, "at", at, Term, WORDS, text.split(" "))

    def test_how_many_terms_lack_is_told(self):
        for text, many in [("f", 2), ("g", 1), ("f A", 1), ("f f A", 2), ("f f", 3), ("f f f", 4), ("g g g", 1)]:
            self.refused(Unended, "many", many, Term, WORDS, text.split(" "))
        self.refused(Unended, "many", 13, Term, WIDE, ["t", "t", "t", "t"])

    def test_the_signs_are_kept_as_a_copy(self):
        signs = ["f", "A", "c"]
        made = Term(WORDS, signs)
        signs[1] = "B"
        signs.append("c")
        self.assertEqual(made, term("f A c"))


class Told(Case):
    def test_what_a_term_tells(self):
        told = term("f A f g B f A c")
        self.assertEqual(told.words(), WORDS)
        self.assertEqual(told.signs(), ["f", "A", "f", "g", "B", "f", "A", "c"])
        self.assertEqual(told.head(), "f")
        self.assertEqual(told.parts(), [term("A"), term("f g B f A c")])
        self.assertEqual(told.spots(), [(), (0,), (1,), (1, 0), (1, 0, 0), (1, 1), (1, 1, 0), (1, 1, 1)])
        self.assertEqual([told.deep(), len(told)], [3, 8])
        self.assertEqual(told.letters(), ["A", "B"])
        self.assertEqual(term("f B f A B").letters(), ["B", "A"])

    def test_terms_without_parts(self):
        for text in ("A", "c"):
            told = term(text)
            self.assertEqual([told.head(), told.parts(), told.spots(), told.deep(), len(told)], [text, [], [()], 0, 1])
        self.assertEqual([term("A").letters(), term("c").letters()], [["A"], []])

    def test_all_small_terms_are_told_as_the_plain_ones(self):
        for text in ALL:
            told, tree = term(text), plain.tree_of(WORDS, text.split(" "))
            spots = plain.parts_of(tree)
            self.assertEqual(told.spots(), list(spots))
            self.assertEqual(told.deep(), max(len(spot) for spot in spots))
            self.assertEqual(told.letters(), plain.letters_of(tree))
            self.assertEqual([part.signs() for part in told.parts()], [plain.signs_of(part) for part in tree[1:]])
            for spot, part in spots.items():
                self.assertEqual(told.part_at(spot).signs(), plain.signs_of(part))
                self.assertEqual(told.head_at(spot), plain.head_of(part))

    def test_four_places(self):
        told = term("t A h A B c g c d", WIDE)
        self.assertEqual([str(part) for part in told.parts()], ["A", "h A B c", "g c", "d"])
        self.assertEqual(told.spots(), [(), (0,), (1,), (1, 0), (1, 1), (1, 2), (2,), (2, 0), (3,)])
        self.assertEqual(told.deep(), 2)

    def test_great_and_deep_terms(self):
        told = Term(WORDS, leaning(200), most=399)
        self.assertEqual([len(told), told.deep(), len(told.spots())], [399, 199, 399])
        told = great("A", 9999)
        self.assertEqual([len(told), len(told.spots()), told.letters()], [9999, 9999, ["A"]])
        self.assertEqual(str(told.normal()), str(told).replace("A", "N0"))
        deep = term(DEEP)
        self.assertEqual([deep.deep(), len(deep)], [200, 201])
        self.assertEqual(deep.part_at((0,) * 200), term("c"))
        self.assertEqual(deep.head_at((0,) * 199), "g")
        self.assertEqual(deep.with_part((0,) * 200, term("A")).letters(), ["A"])
        self.refused(NoSpot, "found", spot := (0,) * 201, deep.part_at, spot)
        self.assertEqual(deep.spots()[-1], (0,) * 200)

    def test_lists_are_new_ones(self):
        told = term("f A g B")
        for ask in (told.signs, told.parts, told.spots, told.letters):
            before = ask()
            ask().append(None)
            ask()[0] = None
            ask().clear()
            self.assertEqual(ask(), before)
        self.assertEqual(told, term("f A g B"))

    def test_of_a_spot_the_part_and_its_head(self):
        told = term("f A f g B c")
        self.assertEqual(told.part_at(()), told)
        self.assertEqual(told.part_at(spot=(1, 0)), term("g B"))
        self.assertEqual([told.head_at(()), told.head_at(spot=(1, 0)), told.head_at((1, 0, 0))], ["f", "g", "B"])

    def test_what_is_no_spot_is_refused(self):
        told = term("f A f g B c")
        wrong = [(0, 0), (2,), (-1,), (1, 2), (1, 0, 1), (1, 1, 0), (True,), (1, False), (False,), ("0",), (None,),
                 ((0,),),
                 [0], [], [1, 0], (0,) * 200, (1, 10 ** 29), (0, None), (1, [0]), (1, term("A"))]
        for thing in wrong + things_but(tuple):
            self.found(NoSpot, thing, told.part_at, thing)
            self.found(NoSpot, thing, told.head_at, thing)
            self.found(NoSpot, thing, told.with_part, thing, None)

    def test_a_spot_with_another_term_there(self):
        told = term("f A g B")
        for spot, new, text in [((), "c", "c"), ((0,), "f c A", "f f c A g B"), ((1,), "A", "f A A"),
                                ((1, 0), "g B", "f A g g B"), ((0,), "A", "f A g B")]:
            self.assertEqual(str(told.with_part(spot, term(new))), text)
        self.assertEqual(told.with_part(spot=(1,), term=term("c", LIKE)), term("f A c"))
        self.assertEqual(str(told), "f A g B")

    def test_with_more_than_a_hundred_signs(self):
        long = term("g " * 99 + "c")
        told = long.with_part((0,) * 99, long)
        self.assertEqual([len(told), told.deep()], [199, 198])
        told = Term(WORDS, leaning(100), most=199)
        self.assertEqual(len(told.with_part((1,), told)), 199 + 198)
        self.assertEqual(told.with_part((1,), told).part_at((1,)), told)
        told = term("f A g B").with_part((1, 0), great("C", 9996))
        self.assertEqual([len(told), told.letters()], [9999, ["A", "C"]])

    def test_refusals_of_another_term_there(self):
        told = term("f A g B")
        for thing in things_but(Term):
            self.found(NoTerm, thing, told.with_part, (0,), thing)
        for words in (OTHER, LAST):
            other = term("A", words)
            self.found(Unlike, other, told.with_part, (0,), other)
            self.found(NoSpot, spot := (2,), told.with_part, spot, other)


class Texts(Case):
    def test_equal_just_to_the_same_signs_of_equal_words(self):
        told = term("f A g B")
        like = [told, term("f A g B"), term("f A g B", LIKE), Term(WORDS, ("f", "A", "g", "B"), most=4)]
        others = [term("f A g A"), term("f B g A"), term("A"), term("f A g B", OTHER), term("f A g B", LAST), "f A g B",
                  ["f", "A", "g", "B"], ("f", "A", "g", "B"), WORDS, told.normal()]
        self.equal_just(told, like, others)
        self.equal_just(told, [], any_things())
        self.equal_just(term("A"), [term("A")], [term("B"), term("A0"), "A", ["A"], term("A", OTHER)])

    def test_all_small_terms_are_equal_to_themselves_alone(self):
        for one, other in itertools.product(ALL, repeat=2):
            self.told(one == other, term(one) == term(other))

    def test_as_a_text(self):
        for text in ALL:
            self.assertEqual(str(term(text)), text)
            self.assertIsInstance(repr(term(text)), str)

    def test_read_of_a_text(self):
        for text in ALL:
            self.assertEqual(term_of(WORDS, text), term(text))
        self.assertEqual(term_of(words=WORDS, text="f A g c").signs(), ["f", "A", "g", "c"])
        self.assertEqual(len(term_of(WORDS, "g " * 99 + "c")), 100)

    def test_refusals_of_a_text(self):
        for thing in things_but(Words):
            self.found(NoWords, thing, term_of, thing, "c")
            self.found(NoWords, thing, term_of, thing, None)
        for text in ["", " ", "c ", " c", "f  A c", "\n", "c\n", "\nc", "f A\nc", "g " * 100 + "c", "x " * 100 + "x"]:
            self.found(NoSigns, text, term_of, WORDS, text)
        for thing in things_but(str):
            self.found(NoSigns, thing, term_of, WORDS, thing)
        self.refused(NoSign, "at", 1, term_of, WORDS, "f x c")
        self.refused(Beyond, "at", 3, term_of, WORDS, "f A c c")
        self.refused(Unended, "many", 2, term_of, WORDS, "f f A")


class Normal(Case):
    def test_letters_as_they_first_come(self):
        for text, told in [("A", "N0"), ("N1", "N0"), ("f A B", "f N0 N1"), ("f B A", "f N0 N1"), ("f A A", "f N0 N0"),
                           ("f N1 N0", "f N0 N1"), ("f f B A f A B", "f f N0 N1 f N1 N0"), ("f N0 g N0", "f N0 g N0")]:
            self.assertEqual(str(term(text).normal()), told)
            self.told(text == told, term(text).is_normal())
            self.told(True, term(told).is_normal())

    def test_a_hundred_unlike_letters(self):
        letters = [capital + number for number in ["", "1", "2", "3"] for capital in "ABCDEFGHIJKLMNOPQRSTUVWXY"]
        signs = [sign for letter in letters for sign in ("f", letter)] + ["c"]
        normal = Term(WORDS, signs, most=201).normal()
        self.assertEqual(normal.letters(), [f"N{number}" for number in range(100)])
        self.assertTrue(normal.is_normal())
        self.assertEqual(normal.rank()[-2], (0, 99))

    def test_ranks(self):
        self.assertEqual(term("f B g A").rank(), ((1, 0), (0, 0), (1, 1), (0, 1)))
        self.assertEqual(term("f A f c A").rank(), ((1, 0), (0, 0), (1, 0), (1, 2), (0, 0)))
        self.assertEqual(term("f B g A", OTHER).rank(), ((1, 1), (0, 0), (1, 0), (0, 1)))
        self.assertEqual(term("Z9").rank(), ((0, 0),))


class Order(Case):
    def expected(self, text):
        tree = plain.normal(plain.tree_of(WORDS, text.split(" ")))
        names = [f"N{number}" for number in range(9)] + WORDS.names()
        return [names.index(sign) for sign in plain.signs_of(tree)]

    def test_of_two_which_is_ahead_and_whether_they_are_variants(self):
        for one, other in itertools.product(ALL, repeat=2):
            left, right = self.expected(one), self.expected(other)
            self.told(left < right, ahead(term(one), term(other)))
            self.told(left == right, variants(term(one), term(other)))
            self.told(left < right, term(one).rank() < term(other).rank())
        self.told(True, ahead(one=term("A"), other=term("c", LIKE)))
        self.told(True, variants(one=term("A"), other=term("B", LIKE)))

    def test_letters_of_greater_numbers_and_words_in_their_order(self):
        rising = ["f N0 N0", "f N0 N1", "f N0 f N0 N0", "f N0 f N0 N1", "f N0 f N1 N0", "f N0 g N0", "f N0 c", "g N0",
                  "c"]
        for number, text in enumerate(rising):
            for later in rising[number + 1:]:
                self.told(True, ahead(term(text), term(later)))
                self.told(False, ahead(term(later), term(text)))
        ten = "f N0 f N1 f N2 f N3 f N4 f N5 f N6 f N7 f N8 f N9 "
        self.told(True, ahead(term(ten + "N2"), term(ten + "N10")))
        self.told(False, ahead(term("f A B", OTHER), term("g A", OTHER)))

    def test_refusals_of_two(self):
        for ask in (ahead, variants):
            for thing in things_but(Term):
                self.found(NoTerm, thing, ask, thing, None)
                self.found(NoTerm, thing, ask, thing, term("A"))
                self.found(NoTerm, thing, ask, term("A"), thing)
            for words in (OTHER, LAST):
                other = term("A", words)
                self.found(Unlike, other, ask, term("A"), other)
                self.found(Unlike, wrong := term("A"), ask, other, wrong)

    def test_lists_in_their_order(self):
        chance = Chance(1)
        for _ in range(40):
            texts = [chance.text(WORDS, 6, ["A", "B", "N0", "N1"]) for _ in range(20)]
            told = [str(one) for one in in_order([term(text) for text in texts])]
            self.assertEqual(told, sorted(texts, key=self.expected))
            told = [str(one) for one in in_order([term(text) for text in texts], falling=True)]
            self.assertEqual(told, sorted(texts, key=self.expected, reverse=True))

    def test_variants_stay_as_they_were_handed_in_also_falling(self):
        handed = [term(text) for text in ["c", "B", "g A", "A", "g B", "c", "C"]]
        rising = [str(one) for one in in_order(terms=handed)]
        falling = [str(one) for one in in_order(tuple(handed), falling=True)]
        self.assertEqual(rising, ["B", "A", "C", "g A", "g B", "c", "c"])
        self.assertEqual(falling, ["c", "c", "g A", "g B", "B", "A", "C"])
        self.assertEqual([str(one) for one in in_order(handed, falling=False)], rising)

    def test_empty_and_full_lists(self):
        self.assertEqual([in_order([]), in_order((), falling=True)], [[], []])
        self.assertEqual(len(in_order([term("A")] * 100)), 100)
        many = [term("A")] * 101
        self.found(NoList, many, in_order, many)

    def test_the_list_stays_as_it_was_and_a_new_one_is_told(self):
        handed = [term("c"), term("A")]
        told = in_order(handed)
        told.append(None)
        self.assertEqual(handed, [term("c"), term("A")])
        self.assertEqual(in_order(handed), [term("A"), term("c")])
        one = [term("A")]
        self.assertIsNot(in_order(one), one)

    def test_refusals_of_lists(self):
        for thing in things_but(list, tuple):
            self.found(NoList, thing, in_order, thing)
            self.found(NoList, thing, in_order, thing, falling=None)
        for thing in things_but(Term):
            self.found(NoTerm, thing, in_order, [thing])
            self.found(NoTerm, thing, in_order, [thing, term("A"), None])
            self.found(NoTerm, thing, in_order, (term("A"), thing, term("A", OTHER)), falling=None)
        other = term("A", OTHER)
        self.found(Unlike, other, in_order, [term("A"), other, None], falling=None)
        self.found(Unlike, wrong := term("A"), in_order, [other, wrong])
        self.found(Unlike, other, in_order, [term("c"), term("A", LIKE), other])

    def test_falling_is_a_truth(self):
        for thing in things_but(bool):
            self.found(NoTruth, thing, in_order, [term("A")], falling=thing)
            self.found(NoTruth, thing, in_order, [], falling=thing)


class Stays(Case):
    def test_what_is_asked_of_a_term_changes_nothing(self):
        one, other = term("f A g B"), term("f g c B")
        asks = [one.words, one.signs, one.head, one.parts, one.spots, one.deep, one.letters, one.normal, one.is_normal,
                one.rank, lambda: one.part_at((1,)), lambda: one.with_part((0,), other), lambda: ahead(one, other),
                lambda: variants(one, other), lambda: in_order([one, other]), lambda: len(one), lambda: str(one)]
        before = marked([one, other])
        for ask in asks:
            self.assertEqual(ask(), ask())
        self.assertEqual(marked([one, other]), before)


if __name__ == "__main__":
    unittest.main()
