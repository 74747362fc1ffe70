"""Meetings: points 5, 34 and 35."""

import itertools
import unittest

from termshelf.puttings import Putting, matched, meeting, shows_meeting
from termshelf.terms import Term, variants
from tests import plain
from tests.samples import LAST, LIKE, OTHER, WIDE, WORDS, Case, Chance, any_things, great, marked, putting, term
from tests.samples import terms_of

ALL = terms_of(4)


class Whole(Case):
    def same_as_plain(self, one, other):
        told, whole = meeting(one, other), plain.whole(plain.tree(one), plain.tree(other))
        if whole is None:
            self.assertIsNone(told)
            return False
        self.assertIs(type(told), tuple)
        self.assertEqual(told[0].signs(), plain.signs_of(whole))
        self.assertTrue(told[0].is_normal())
        for made, side in zip(told[1:], (one, other)):
            self.assertEqual(sorted(made.letters()), sorted(side.letters()))
            self.assertEqual(made.put(side), told[0])
        self.told(True, shows_meeting(one, other, *told))
        return True

    def test_ordinary_ones(self):
        for one, other, told in [("A", "A", "N0"), ("A", "f A B", "f N0 N1"), ("f A c", "f c A", "f c c"),
                                 ("f A B", "f B A", "f N0 N1"), ("f A A", "f A B", "f N0 N0"), ("c", "c", "c"),
                                 ("f A g A", "f g B C", "f g N0 g g N0"),
                                 ("f A f A A", "f B f C g c", "f g c f g c g c")]:
            self.assertEqual(str(meeting(term(one), term(other, LIKE))[0]), told)
            self.assertEqual(str(meeting(one=term(other), other=term(one))[0]), told)

    def test_the_puttings(self):
        whole, left, right = meeting(term("f A g A"), term("f g B C"))
        self.assertEqual([str(whole), str(left), str(right)], ["f g N0 g g N0", "A = g N0", "B = N0; C = g g N0"])
        whole, left, right = meeting(term("f A B"), term("f B A"))
        self.assertEqual([str(left), str(right)], ["A = N0; B = N1", "A = N1; B = N0"])
        self.assertEqual(meeting(term("c"), term("c"))[1:], (Putting(WORDS), Putting(WORDS)))

    def test_letters_called_alike_have_nothing_to_do_with_one_another(self):
        self.assertEqual(str(meeting(term("A"), term("g A"))[0]), "g N0")
        self.assertEqual(str(meeting(term("f A g B"), term("f g B A"))[0]), "f g N0 g N1")

    def test_none_where_they_do_not_meet(self):
        for one, other in [("c", "g A"), ("f A A", "f B g B"), ("f A A", "f c g B"), ("f A g A", "f g B B"),
                           ("f A f B g A", "f g C f C C"), ("f A B", "g A"), ("f f A B f A B", "f f C D f g D g C")]:
            self.assertIsNone(meeting(term(one), term(other)))
            self.assertIsNone(meeting(term(other), term(one)))

    def test_all_small_terms(self):
        meet = [self.same_as_plain(term(one), term(other)) for one, other in itertools.product(ALL, repeat=2)]
        self.assertTrue(500 < sum(meet) < len(meet) - 500)

    def test_a_term_with_itself_and_its_variants(self):
        for text in ALL:
            turned = putting({"A": "B", "B": "A"}).put(term(text))
            self.assertEqual(meeting(term(text), term(text))[0], term(text).normal())
            self.assertEqual(meeting(term(text), turned)[0], term(text).normal())
            self.assertEqual(meeting(term(text), term("Z"))[0], term(text).normal())

    def test_terms_by_chance(self):
        chance = Chance(4)
        meet = []
        for _ in range(1500):
            meet.append(self.same_as_plain(*chance.pair()))
        self.assertTrue(100 < sum(meet) < 1400)

    def test_all_common_instances_are_instances_of_it(self):
        for one, other in itertools.product(ALL[:20], repeat=2):
            told = meeting(term(one), term(other))
            for text in ALL:
                both = [matched(term(side), term(text)) is not None for side in (one, other)]
                if both == [True, True]:
                    self.assertIsNotNone(told)
                    self.assertIsNotNone(matched(told[0], term(text)))

    def test_a_meeting_with_many_signs(self):
        one, other = term("t A t A A A A B t B B B B", WIDE), term("t t A A A A B t B B B B C", WIDE)
        self.assertTrue(self.same_as_plain(one, other))
        whole = meeting(one, other)[0]
        self.assertEqual(len(whole), 1 + 5 + 21 + 85 + 341)
        self.assertTrue(variants(whole, plain_whole(one, other)))


def plain_whole(one, other):
    return Term(WIDE, plain.signs_of(plain.whole(plain.tree(one), plain.tree(other))), most=9999)


class Shows(Case):
    def setUp(self):
        self.one, self.other = term("f A g A"), term("f g B C")
        self.whole, self.left, self.right = meeting(self.one, self.other)

    def shows(self, whole, left, right):
        return shows_meeting(self.one, self.other, whole, left, right)

    def test_what_shows_it(self):
        self.told(True, self.shows(self.whole, self.left, self.right))
        self.told(True, shows_meeting(one=self.one, other=self.other, whole=self.whole, left=self.left,
                                      right=self.right))
        like = term("f g N0 g g N0", LIKE)
        self.told(True, self.shows(like, putting({"A": "g N0"}, LIKE), putting({"B": "N0", "C": "g g N0"}, LIKE)))

    def test_it_need_not_be_the_meeting(self):
        self.told(True, self.shows(term("f g c g g c"), putting({"A": "g c"}), putting({"B": "c", "C": "g g c"})))
        self.told(True, shows_meeting(term("A"), term("A"), term("f N0 N1"), *[putting({"A": "f N0 N1"})] * 2))

    def test_what_does_not(self):
        left, right = {"A": "g N0"}, {"B": "N0", "C": "g g N0"}
        for whole in ("f g N0 g g N1", "f g A g g A", "f g N1 g g N1", "f g c g g c", "f g N0 g N0", "N0"):
            self.told(False, self.shows(term(whole), self.left, self.right))
        for pairs in ({}, {"A": "g N1"}, {"A": "g c"}, {"B": "g N0"}, {"A": "g N0", "B": "N0"}, {"A": "A"}):
            self.told(False, self.shows(self.whole, putting(pairs), self.right))
        for pairs in ({}, {"B": "N0"}, {"B": "N0", "C": "g N0"}, {**right, "A": "N0"}, {"A": "N0", "C": "g g N0"}):
            self.told(False, self.shows(self.whole, self.left, putting(pairs)))
        self.told(False, self.shows(self.whole, self.right, self.left))
        self.told(False, self.shows(self.whole, putting(left, LAST), self.right))
        self.told(False, self.shows(self.whole, self.left, putting(right, OTHER)))
        self.told(False, self.shows(term("f g N0 g g N0", LAST), self.left, self.right))

    def test_a_normal_term_alone(self):
        pairs = [putting({"A": "B"}), putting({"A": "B"})]
        self.told(False, shows_meeting(term("A"), term("A"), term("B"), *pairs))
        self.told(True, shows_meeting(term("A"), term("A"), term("N0"), *[putting({"A": "N0"})] * 2))

    def test_puttings_of_other_words_without_letters(self):
        self.told(True, shows_meeting(term("c"), term("c"), term("c"), putting({}), putting({}, LIKE)))
        self.told(False, shows_meeting(term("c"), term("c"), term("c"), putting({}, OTHER), putting({})))
        self.told(False, shows_meeting(term("c"), term("c"), term("c"), putting({}), putting({}, LAST)))
        self.told(False, shows_meeting(term("c"), term("c"), term("c", LAST), putting({}), putting({})))

    def test_any_things(self):
        for thing in any_things():
            if thing not in [self.whole]:
                self.told(False, self.shows(thing, self.left, self.right))
            self.told(False, self.shows(self.whole, thing, self.right))
            self.told(False, self.shows(self.whole, self.left, thing))
            self.told(False, self.shows(thing, thing, thing))

    def test_puttings_that_would_make_far_too_great_terms(self):
        made = Putting(WORDS, {"A": great("N0", 9999)})
        self.told(False, shows_meeting(term("f A A"), term("f A A"), term("N0"), made, made))
        self.told(True, shows_meeting(term("A"), term("A"), made.given("A"), made, made))

    def test_terms_that_do_not_meet_are_shown_by_nothing(self):
        for whole, pairs in itertools.product(ALL[:10], [{}, {"A": "c"}, {"A": "N0"}]):
            self.told(False, shows_meeting(term("g A"), term("c"), term(whole), putting(pairs), putting({})))


class Refusals(Case):
    def test_in_their_order(self):
        for ask in (meeting, lambda one, other: shows_meeting(one, other, None, None, None)):
            self.refuses_two(ask)

    def test_sixteen_signs_are_not_too_many(self):
        self.assertEqual(meeting(self.sixteen(), self.sixteen())[0], self.sixteen().normal())


class Stays(Case):
    def test_what_is_asked_changes_nothing(self):
        one, other = term("f A g A"), term("f g B C")
        before = marked([one, other])
        told = meeting(one, other)
        self.assertEqual(told, meeting(term("f A g A"), term("f g B C")))
        self.told(True, shows_meeting(one, other, *told))
        self.assertEqual(told, meeting(one, other))
        self.assertEqual(marked([one, other]), before)


if __name__ == "__main__":
    unittest.main()
