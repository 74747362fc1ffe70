"""Puttings and instances: points 5 and 31 to 33."""

import itertools
import unittest

from termshelf.errors import NoLetter, NoPairs, NoPutting, NoTerm, NoWords, TooGreat, Unlike
from termshelf.puttings import Putting, matched
from termshelf.signs import Words
from termshelf.terms import Term
from tests import plain
from tests.samples import LAST, LIKE, OTHER, WIDE, WORDS, Case, Chance, any_things, great, marked, putting, term
from tests.samples import terms_of, things_but

ALL = terms_of(4)
HUNDRED = [f"{capital}{number}" for capital in "ZYXWVUTSRQ" for number in range(10)]


def hundred(words=WORDS):
    return {letter: term("c", words) for letter in HUNDRED}


class Made(Case):
    def test_of_a_dict_or_of_none(self):
        for made in (Putting(WORDS), Putting(WORDS, None), Putting(WORDS, {}), Putting(words=WORDS, pairs=None)):
            self.assertEqual([made.letters(), len(made), str(made)], [[], 0, ""])
        made = Putting(WORDS, {"A": term("g c"), "B0": term("N1", LIKE)})
        self.assertEqual([made.letters(), len(made), str(made)], [["A", "B0"], 2, "A = g c; B0 = N1"])

    def test_of_a_hundred_letters_and_no_more(self):
        self.assertEqual(len(Putting(WORDS, hundred())), 100)
        more = dict(hundred())
        more["A"] = term("c")
        self.found(NoPairs, more, Putting, WORDS, more)

    def test_no_words(self):
        for thing in things_but(Words):
            self.found(NoWords, thing, Putting, thing)
            self.found(NoWords, thing, Putting, thing, None)
            self.found(NoWords, thing, Putting, thing, 5)

    def test_no_pairs(self):
        for thing in things_but(dict):
            if thing is not None:
                self.found(NoPairs, thing, Putting, WORDS, thing)
        for key in ["a", "", "A00", "AB", "A ", 0, 1, True, False, None, "f"]:
            for pairs in ({key: term("c")}, {"A": None, key: None}, {key: 1, "A": term("c")}):
                self.found(NoPairs, pairs, Putting, WORDS, pairs)

    def test_no_terms_in_the_dicts_order(self):
        other = term("A", OTHER)
        for thing in things_but(Term):
            self.found(NoTerm, thing, Putting, WORDS, {"A": thing})
            self.found(NoTerm, thing, Putting, WORDS, {"B": term("c"), "A": thing, "C": other})
            self.found(Unlike, other, Putting, WORDS, {"Z": other, "A": thing})
        self.found(Unlike, other, Putting, WORDS, {"B": term("c"), "Z": other, "A": term("A", LAST)})

    def test_the_dict_is_kept_as_a_copy(self):
        pairs = {"A": term("c")}
        made = Putting(WORDS, pairs)
        pairs["A"] = term("g c")
        pairs["B"] = term("c")
        self.assertEqual(str(made), "A = c")


class Told(Case):
    def test_letters_in_their_order(self):
        pairs = {letter: "c" for letter in ["Z", "B10", "B2", "A99", "B", "A", "A0", "N1"]}
        made = putting(pairs)
        self.assertEqual(made.letters(), ["A", "A0", "A99", "B", "B2", "B10", "N1", "Z"])
        self.assertEqual(str(made), "; ".join([letter + " = c" for letter in made.letters()]))
        self.assertEqual(len(made), 8)
        made.letters().clear()
        self.assertEqual(len(made.letters()), 8)

    def test_what_is_given(self):
        made = putting({"A": "g B", "B": "A"})
        self.assertEqual(made.words(), WORDS)
        self.assertEqual([made.given("A"), made.given("B")], [term("g B"), term("A")])
        self.assertEqual([made.given("A0"), made.given(letter="Z99")], [term("A0"), term("Z99")])
        for thing in ["a", "", "A00", "f"] + [thing for thing in any_things() if thing not in ("A", "N0")]:
            self.found(NoLetter, thing, made.given, thing)

    def test_equality(self):
        made = putting({"A": "g B", "B": "A"})
        like = [made, putting({"B": "A", "A": "g B"}), putting({"A": "g B", "B": "A"}, LIKE)]
        others = [putting({"A": "g B"}), putting({"A": "g B", "B": "B"}), putting({"A": "g B", "C": "A"}), putting({}),
                  putting({"A": "g B", "B": "A"}, OTHER), putting({"A": "g B", "B": "A", "C": "C"}), str(made),
                  {"A": term("g B"), "B": term("A")}, term("A"), WORDS]
        self.equal_just(made, like, others)
        self.equal_just(made, [], any_things())
        self.equal_just(putting({}), [Putting(WORDS)], [putting({"A": "A"}), putting({}, OTHER), {}, None, 0, "",
                                                        False])
        self.assertIsInstance(repr(made), str)


class Put(Case):
    def test_all_at_once_and_others_stay(self):
        made = putting({"A": "f B A", "B": "g A"})
        for text, told in [("A", "f B A"), ("B", "g A"), ("C", "C"), ("c", "c"), ("f A f B C", "f f B A f g A C")]:
            self.assertEqual(made.put(term(text)), term(told))
        self.assertEqual(made.put(term=term("g A", LIKE)), term("g f B A"))

    def test_small_terms_as_the_plain_ones(self):
        for one, other in itertools.product(ALL[:18], repeat=2):
            made = putting({"A": one, "B": other})
            trees = {"A": plain.tree(term(one)), "B": plain.tree(term(other))}
            for text in ALL:
                self.assertEqual(made.put(term(text)).signs(), plain.signs_of(plain.put(plain.tree(term(text)), trees)))

    def test_refusals(self):
        made = putting({"A": "c"})
        for thing in things_but(Term):
            self.found(NoTerm, thing, made.put, thing)
        for other in (term("A", OTHER), term("c", LAST)):
            self.found(Unlike, other, made.put, other)

    def test_too_great(self):
        made = Putting(WORDS, {"A": great("B", 4999)})
        self.assertEqual(len(made.put(term("f A A"))), 9999)
        self.refused(TooGreat, "many", 10000, made.put, term("g f A A"))
        self.refused(TooGreat, "many", 14999, made.put, term("f A f A A"))
        made = Putting(WORDS, {"A": great("B", 9999)})
        self.assertEqual(len(made.put(term("A"))), 9999)
        self.refused(TooGreat, "many", 10000, made.put, term("g A"))
        self.refused(TooGreat, "many", 50 * 9999 + 49, made.put, great("A", 99))


class Then(Case):
    def test_one_behind_another(self):
        first, second = putting({"A": "f B C", "B": "A"}), putting({"B": "g A", "D": "c"})
        self.assertEqual(str(first.then(second)), "A = f g A C; B = A; D = c")
        self.assertEqual(str(second.then(other=first)), "A = f B C; B = g f B C; D = c")
        self.assertEqual(first.then(Putting(LIKE)), first)
        self.assertEqual(Putting(WORDS).then(first), first)
        self.assertEqual(str(putting({"A": "B"}).then(putting({"B": "A"}))), "A = A; B = A")

    def test_it_gives_what_both_give(self):
        chance = Chance(2)
        letters = ["A", "B", "C", "N0"]
        for _ in range(300):
            first, second = [putting({letter: chance.text(WORDS, 5, letters) for letter in letters
                                      if chance.one_of([True, False])}) for _ in range(2)]
            both = first.then(second)
            self.assertEqual(set(both.letters()), set(first.letters()) | set(second.letters()))
            for text in ALL[:20] + [chance.text(WORDS, 12, letters)]:
                self.assertEqual(both.put(term(text)), second.put(first.put(term(text))))

    def test_it_has_all_letters_however_many(self):
        second = Putting(WORDS, {f"A{number}": term("A") for number in range(100)})
        both = Putting(WORDS, hundred()).then(second)
        self.assertEqual(len(both), 200)
        self.assertEqual(len(both.then(putting({"A": "c"}))), 201)
        self.assertEqual(both.letters()[:3], ["A0", "A1", "A2"])

    def test_refusals(self):
        made = putting({"A": "B"})
        for thing in things_but(Putting):
            self.found(NoPutting, thing, made.then, thing)
        for other in (putting({}, OTHER), putting({"A": "c"}, LAST)):
            self.found(Unlike, other, made.then, other)

    def test_too_great_in_the_order_of_letters(self):
        second = Putting(WORDS, {"A": great("B", 9999)})
        self.assertEqual(len(putting({"A": "A"}).then(second).given("A")), 9999)
        self.refused(TooGreat, "many", 10000, putting({"B": "g A"}).then, second)
        self.refused(TooGreat, "many", 10001, putting({"Z": "g A", "B10": "f A A", "B9": "g g A"}).then, second)
        self.refused(TooGreat, "many", 10003, putting({"A0": "g A", "A": "g g g g A"}).then, second)


class Instances(Case):
    def test_ordinary_ones(self):
        for ask, kept, told in [("A", "f B c", "A = f B c"), ("f A B", "f c g B", "A = c; B = g B"),
                                ("f A A", "f g B g B", "A = g B"), ("f A g B", "f B g A", "A = B; B = A"),
                                ("c", "c", ""), ("A", "A", "A = A"), ("f A B", "f B A", "A = B; B = A")]:
            self.assertEqual(str(matched(term(ask), term(kept, LIKE))), told)
            self.assertEqual(matched(ask=term(ask), kept=term(kept), within=None), matched(term(ask), term(kept)))

    def test_letters_of_the_kept_one_stay(self):
        for ask, kept in [("f A A", "f A B"), ("c", "A"), ("g A", "A"), ("f A A", "f B A"), ("f A g A", "f g A g A"),
                          ("f c A", "f A c"), ("g c", "g g c"), ("f A c", "f c A")]:
            self.assertIsNone(matched(term(ask), term(kept)))

    def test_small_terms_as_the_plain_ones(self):
        for ask, kept in itertools.product(ALL, repeat=2):
            told, pairs = matched(term(ask), term(kept)), plain.instance(plain.tree(term(ask)), plain.tree(term(kept)),
                                                                         {})
            if pairs is None:
                self.assertIsNone(told)
            else:
                self.assertEqual(set(told.letters()), set(term(ask).letters()))
                self.assertEqual({letter: plain.tree(told.given(letter)) for letter in told.letters()}, pairs)
                self.assertEqual(told.put(term(ask)), term(kept))

    def test_of_whatever_size(self):
        large = great("B", 9999)
        self.assertEqual(matched(term("A"), large), Putting(WORDS, {"A": large}))
        self.assertEqual(matched(large, large), putting({"B": "B"}))
        self.assertIsNone(matched(large, term("c")))
        deep = term("g " * 200 + "A")
        self.assertEqual(matched(deep, term("g " * 200 + "c")), putting({"A": "c"}))
        self.assertIsNone(matched(deep, term("g " * 199 + "c")))

    def test_many_letters(self):
        signs = [sign for letter in HUNDRED + ["A", "B"] for sign in ("f", letter)] + ["c"]
        told = matched(Term(WORDS, signs, most=999), Term(WORDS, signs, most=999))
        self.assertEqual(len(told), 102)

    def test_within_a_putting(self):
        ask, kept = term("f A B"), term("f c g C")
        within = putting({"A": "c", "Z": "f A A"})
        self.assertEqual(str(matched(ask, kept, within=within)), "A = c; B = g C; Z = f A A")
        self.assertEqual(str(matched(ask, kept, within=putting({}, LIKE))), "A = c; B = g C")
        self.assertEqual(str(matched(term("c"), term("c"), within=within)), str(within))
        self.assertIsNone(matched(ask, kept, within=putting({"A": "C"})))
        self.assertIsNone(matched(ask, kept, within=putting({"B": "g c"})))
        self.assertIsNone(matched(term("c"), term("g c"), within=within))
        self.assertEqual(str(within), "A = c; Z = f A A")

    def test_within_a_hundred_letters(self):
        self.assertEqual(len(matched(term("f A B"), term("f c c"), within=Putting(WORDS, hundred()))), 102)

    def test_refusals_in_their_order(self):
        other = term("A", OTHER)
        for thing in things_but(Term):
            self.found(NoTerm, thing, matched, thing, None, within=5)
            self.found(NoTerm, thing, matched, thing, other, within=5)
            self.found(NoTerm, thing, matched, other, thing, within=5)
        self.found(Unlike, other, matched, term("A"), other, within=5)
        for thing in things_but(Putting):
            if thing is not None:
                self.found(NoPutting, thing, matched, term("A"), term("c"), within=thing)
                self.found(NoPutting, thing, matched, term("c"), term("A"), within=thing)
        for wrong in (putting({}, OTHER), putting({"A": "c"}, LAST)):
            self.found(Unlike, wrong, matched, term("A"), term("c"), within=wrong)


class Stays(Case):
    def test_what_is_asked_changes_nothing(self):
        chance = Chance(3)
        for _ in range(50):
            one, other = [term(chance.text(WIDE, 16, ["A", "B"]), WIDE) for _ in range(2)]
            made = putting({"A": "f A B", "B": "g A"}, WIDE)
            before = marked([one, other, made])
            for ask in (lambda: made.put(one), lambda: made.then(made), lambda: matched(one, other, within=made)):
                self.assertEqual(ask(), ask())
            self.assertEqual(marked([one, other, made]), before)


if __name__ == "__main__":
    unittest.main()
