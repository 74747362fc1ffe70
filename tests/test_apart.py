"""Papers that two terms don't meet: points 41 to 43."""

import itertools
import unittest

from termshelf.apart import first_wrong, shows_apart, why_apart
from termshelf.errors import NoList
from termshelf.puttings import meeting
from tests import plain
from tests.samples import LIKE, WIDE, Case, Chance, any_things, marked, term, terms_of, things_but
from tests.touched import touched

ALL = terms_of(4)
ROOTS = ((0, ()), (1, ()))

# Two that clash by way of a letter, and two of which parts lead round a ring.
CLASH = (term("f A A"), term("f g B c"))
CLASH_ROWS = [
    ((0, (0,)), (1, (0,)), ("over",)),
    ((0, (1,)), (1, (1,)), ("over",)),
    ((0, (0,)), (0, (1,)), ("letter",)),
    ((1, (0,)), (0, (0,)), ("turned", 0)),
    ((1, (0,)), (0, (1,)), ("joined", 3, 2)),
    ((1, (0,)), (1, (1,)), ("joined", 4, 1)),
]
RING = (term("f A g A"), term("f B B"))
RING_ROWS = [
    ((0, (0,)), (1, (0,)), ("over",)),
    ((0, (1,)), (1, (1,)), ("over",)),
    ((1, (0,)), (1, (1,)), ("letter",)),
    ((0, (0,)), (1, (1,)), ("joined", 0, 2)),
    ((1, (1,)), (0, (1,)), ("turned", 1)),
    ((0, (0,)), (0, (1,)), ("joined", 3, 4)),
    ((0, (1, 0)), (0, (0,)), ("letter",)),
    ((0, (1, 0)), (0, (1,)), ("joined", 6, 5)),
]
PARTS = (term("f f A g A f g B B"), term("f C C"))
PARTS_ROWS = [
    (*ROOTS, ("over",)),
    ((0, (0,)), (1, (0,)), ("part", 0, 0)),
    ((0, (1,)), (1, (1,)), ("part", 0, 1)),
    ((1, (0,)), (1, (1,)), ("letter",)),
    ((1, (1,)), (0, (1,)), ("turned", 2)),
    ((0, (0,)), (1, (1,)), ("joined", 1, 3)),
    ((0, (0,)), (0, (1,)), ("joined", 5, 4)),
    ((0, (0, 0)), (0, (1, 0)), ("part", 6, 0)),
    ((0, (0, 1)), (0, (1, 1)), ("part", 6, 1)),
]


class Rows(Case):
    def test_rows_that_hold(self):
        for pair, rows in ((CLASH, CLASH_ROWS), (RING, RING_ROWS), (PARTS, PARTS_ROWS)):
            self.assertIsNone(first_wrong(*pair, rows))
            self.assertIsNone(first_wrong(one=pair[0], other=pair[1], rows=tuple(rows)))
            self.assertIsNone(plain.first_wrong(*[plain.tree(side) for side in pair], rows))

    def test_no_rows_hold_all(self):
        self.assertIsNone(first_wrong(*CLASH, []))
        self.assertIsNone(first_wrong(*CLASH, ()))

    def test_the_first_row_that_does_not_hold_is_told(self):
        for rows, number in [([None], 0), (CLASH_ROWS[1:], 2), (CLASH_ROWS[:3] + [None, None], 3), ([()], 0),
                             (CLASH_ROWS + [((1, (0,)), (0, (0,)), ("turned", 6))], 6), ([CLASH_ROWS], 0),
                             (CLASH_ROWS + [CLASH_ROWS[0], list(CLASH_ROWS[0])], 7)]:
            self.assertEqual(first_wrong(*CLASH, rows), number)

    def test_over(self):
        one, other = term("f A g B"), term("f g c g A")
        for a, b, truth in [((0, ()), (1, ()), True), ((0, (1, 0)), (1, (1, 0)), True), ((1, ()), (0, ()), False),
                            ((0, ()), (0, ()), False), ((0, ()), (1, (0,)), False), ((0, (0, 0)), (1, (0, 0)), False),
                            ((1, (0, 0)), (1, (0, 0)), False), ((0, (2,)), (1, (2,)), False)]:
            self.assertEqual(first_wrong(one, other, [(a, b, ("over",))]), None if truth else 0)
        # What stands at the places is another matter, and spots beneath unlike words are spots too.
        self.assertIsNone(first_wrong(term("g c"), term("f A B"), [((0, (0,)), (1, (0,)), ("over",))]))

    def test_letter(self):
        one, other = term("f A f A B"), term("f A c")
        for a, b, truth in [((0, (0,)), (0, (1, 0)), True), ((0, (1, 0)), (0, (0,)), True),
                            ((0, (0,)), (0, (0,)), True),
                            ((1, (0,)), (1, (0,)), True), ((0, (0,)), (1, (0,)), False),
                            ((0, (0,)), (0, (1, 1)), False),
                            ((1, (1,)), (1, (1,)), False), ((0, ()), (0, ()), False), ((0, (1,)), (0, ()), False)]:
            self.assertEqual(first_wrong(one, other, [(a, b, ("letter",))]), None if truth else 0)

    def test_turned_and_joined(self):
        rows = CLASH_ROWS[:3]
        good = [((1, (0,)), (0, (0,)), ("turned", 0)), ((0, (1,)), (0, (0,)), ("turned", 2)),
                ((0, (0,)), (1, (1,)), ("joined", 2, 1))]
        for row in good:
            self.assertIsNone(first_wrong(*CLASH, rows + [row]))
        for row in [((0, (0,)), (1, (0,)), ("turned", 0)), ((1, (0,)), (0, (0,)), ("turned", 1)),
                    ((1, (0,)), (0, (0,)), ("turned", 3)), ((1, (0,)), (0, (0,)), ("turned", -3)),
                    ((1, (0,)), (0, (0,)), ("turned", False)), ((1, (0,)), (0, (0,)), ("turned",)),
                    ((0, (0,)), (1, (1,)), ("joined", 1, 2)), ((0, (0,)), (1, (1,)), ("joined", 2, True)),
                    ((0, (0,)), (1, (1,)), ("joined", 2, 3)), ((0, (0,)), (1, (1,)), ("joined", 2)),
                    ((0, (0,)), (1, (1,)), ("joined", -1, -2)), ((0, (0,)), (1, (0,)), ("joined", 2, 0))]:
            self.assertEqual(first_wrong(*CLASH, rows + [row]), 3, row)

    def test_no_row_stands_on_itself_or_on_later_ones(self):
        same = ((0, (0,)), (0, (0,)))
        for rows in ([], CLASH_ROWS[:1], CLASH_ROWS[:3]):
            for why in [("turned", len(rows)), ("turned", -1), ("joined", len(rows), len(rows)), ("joined", -1, -1)]:
                self.assertEqual(first_wrong(*CLASH, rows + [(*same, why)]), len(rows))
                self.assertEqual(first_wrong(*CLASH, rows + [(*same, why), (*same, ("letter",))]), len(rows))
        self.assertEqual(first_wrong(*CLASH, [(*same, ("turned", 1)), (*same, ("letter",))]), 0)
        rows = [(*same, ("letter",)), (*same, ("turned", 0)), (*same, ("joined", 1, 1)), (*same, ("joined", 2, 0))]
        self.assertIsNone(first_wrong(*CLASH, rows))

    def test_sides_are_0_and_1(self):
        for side in (-1, -2, 2, True, False, None, "0", (0,)):
            for row in [((side, (0,)), (side, (1,)), ("letter",)), ((0, ()), (side, ()), ("over",)),
                        ((side, ()), (1, ()), ("over",)), ((side, ()), (side, ()), ("over",))]:
                self.assertEqual(first_wrong(*CLASH, [row]), 0)
                self.assertEqual(first_wrong(*RING, [row]), 0)

    def test_part(self):
        one, other = term("f g A c"), term("f g g B D")
        rows = [(*ROOTS, ("over",)), ((0, (0,)), (1, (0,)), ("part", 0, 0)), ((0, (1,)), (1, (1,)), ("over",))]
        self.assertIsNone(first_wrong(one, other, rows + [((0, (0, 0)), (1, (0, 0)), ("part", 1, 0))]))
        for a, b, why in [((0, (0, 0)), (1, (0, 0)), ("part", 1, 1)), ((0, (0, 0)), (1, (0, 0)), ("part", 1, False)),
                          ((0, (0, 0)), (1, (0, 0)), ("part", True, 0)), ((0, (0, 0)), (1, (0, 0)), ("part", 0, 0)),
                          ((1, (0, 0)), (0, (0, 0)), ("part", 1, 0)), ((0, (1,)), (1, (1,)), ("part", 0, 0)),
                          ((0, (0,)), (1, (0,)), ("part", 0, -2)), ((0, (1,)), (1, (1,)), ("part", 2, 0)),
                          ((0, (0, 0)), (1, (0, 0)), ("part", 1)), ((0, (0, 0)), (1, (0, 0)), ("part", 1, None))]:
            self.assertEqual(first_wrong(one, other, rows + [(a, b, why)]), 3, why)

    def test_a_part_of_a_greater_number_than_its_rows(self):
        roots = (*ROOTS, ("over",))
        for k in range(4):
            row = ((0, (k,)), (1, (k,)), ("part", 0, k))
            self.assertIsNone(first_wrong(term("t A B C D", WIDE), term("t c c c c", WIDE), [roots, row]))
            told = first_wrong(term("h A B C", WIDE), term("h c c c", WIDE), [roots, row])
            self.assertEqual(told, None if k < 3 else 1)

    def test_parts_of_the_same_word_alone(self):
        rows = [((0, ()), (1, ()), ("over",))]
        for one, other in [("f A B", "g A"), ("g A", "f A B"), ("A", "g A"), ("g A", "A"), ("A", "A")]:
            row = ((0, (0,)), (1, (0,)), ("part", 0, 0))
            self.assertEqual(first_wrong(term(one), term(other), rows + [row]), 1)

    def test_a_row_put_otherwise_at_one_place_holds_just_where_the_plain_ones_do(self):
        for pair, rows in ((CLASH, CLASH_ROWS), (RING, RING_ROWS), (PARTS, PARTS_ROWS)):
            trees = [plain.tree(side) for side in pair]
            for at in range(len(rows)):
                good = plain.rows_behind(*trees, rows[:at])
                for row in touched(rows[at]):
                    told = first_wrong(*pair, rows[:at] + [row])
                    self.assertEqual(told, None if repr(row) in good else at, row)

    def test_any_things_are_no_rows(self):
        for thing in any_things():
            self.assertEqual(first_wrong(*CLASH, CLASH_ROWS + [thing]), len(CLASH_ROWS))
            for row in [(thing, CLASH_ROWS[0][1], ("over",)), (CLASH_ROWS[0][0], thing, ("over",)),
                        (*CLASH_ROWS[0][:2], thing), (*CLASH_ROWS[0][:2], (thing,)), ((thing, ()), (1, ()), ("over",)),
                        ((0, ()), (1, thing), ("over",)), ((1, (0,)), (0, (0,)), ("turned", thing))]:
                if row != CLASH_ROWS[0] and repr(row) not in (repr((*ROOTS, ("over",))), repr(CLASH_ROWS[3])):
                    self.assertEqual(first_wrong(*CLASH, [CLASH_ROWS[0], row]), 1, row)

    def test_a_thousand_rows_and_no_more(self):
        rows = [CLASH_ROWS[0]] * 1000
        self.assertIsNone(first_wrong(*CLASH, rows))
        self.assertEqual(first_wrong(*CLASH, rows[1:] + [CLASH_ROWS[3][:2] + (("turned", 999),)]), 999)
        for many in (rows + rows[:1], tuple(rows + rows[:1]), rows + rows[:10], [None] * 1001):
            self.found(NoList, many, first_wrong, *CLASH, many)


class Papers(Case):
    def test_ordinary_ones(self):
        for one, other, word in [("c", "g A", "clash"), ("f A A", "f c g B", "clash"), ("f A g A", "f B B", "ring"),
                                 ("f A g A", "f g B B", "ring"), ("f f A B f A B", "f f C D f g D g C", "ring"),
                                 ("f g A g c", "f B B", None), ("f A B", "f B A", None), ("A", "A", None)]:
            told = why_apart(one=term(one), other=term(other, LIKE))
            self.assertEqual(None if told is None else told[0], word)

    def test_lists_of_rows_and_turns(self):
        told = why_apart(*CLASH)
        self.assertIs(type(told), tuple)
        self.assertEqual([type(part) for part in told], [str, list])
        told = why_apart(*RING)
        self.assertEqual([type(part) for part in told], [str, list, list])
        for row in told[1]:
            self.assertEqual([type(row), type(row[0]), type(row[1]), type(row[2])], [tuple] * 4)

    def test_by_hand(self):
        self.told(True, shows_apart(*CLASH, ("clash", CLASH_ROWS)))
        self.told(True, shows_apart(one=CLASH[0], other=CLASH[1], thing=("clash", tuple(CLASH_ROWS))))
        self.told(True, shows_apart(*RING, ("ring", RING_ROWS, [(7, (1, 0))])))
        self.told(True, shows_apart(*RING, ("ring", tuple(RING_ROWS), ((7, (1, 0)), (7, (1, 0))))))
        self.told(True, shows_apart(*PARTS, ("ring", PARTS_ROWS + [
            ((0, (1, 1)), (0, (1, 0, 0)), ("letter",)), ((0, (0, 1)), (0, (1, 0, 0)), ("joined", 8, 9)),
            ((0, (0, 1, 0)), (0, (0, 0)), ("letter",)), ((0, (0, 1, 0)), (0, (1, 0)), ("joined", 11, 7)),
            ((0, (1, 0, 0)), (0, (0, 1)), ("turned", 10))], [(12, (1, 0, 0)), (13, (0, 1, 0))])))

    def test_the_last_row_clashes_by_two_unlike_words(self):
        for many in range(1, 6):
            self.told(False, shows_apart(*CLASH, ("clash", CLASH_ROWS[:many])))
        self.told(False, shows_apart(*CLASH, ("clash", CLASH_ROWS + CLASH_ROWS[:1])))
        self.told(False, shows_apart(term("A"), term("A"), ("clash", [(*ROOTS, ("over",))])))
        self.told(False, shows_apart(term("A"), term("c"), ("clash", [(*ROOTS, ("over",))])))
        self.told(False, shows_apart(term("c"), term("A"), ("clash", [(*ROOTS, ("over",))])))
        self.told(False, shows_apart(term("c"), term("c"), ("clash", [(*ROOTS, ("over",))])))
        self.told(True, shows_apart(term("c"), term("g A"), ("clash", [(*ROOTS, ("over",))])))

    def test_turns_lead_round(self):
        rows = RING_ROWS
        for turns in [[], [(7, (1,))], [(7, ())], [(7, (1, 0)), (6, (1, 0))], [(8, (1, 0))], [(-1, (1, 0))],
                      [(0, (0,))],
                      [(7, [1, 0])], [[7, (1, 0)]], [(7,)], [(7, (1, 0), ())], [(7, (True, 0))], [(7, (1, False))],
                      [(7, (0, 0))], [(5, (1, 0))], None, {}, {7: (1, 0)}, "turns", 7, (7, (1, 0)), [None], [7]]:
            self.told(False, shows_apart(*RING, ("ring", rows, turns)))

    def test_a_turn_leads_further_down(self):
        # Rows that lead round without a part that is smaller show nothing.
        one, other = term("f A f B A"), term("f g c f C D")
        rows = [((0, (0,)), (1, (0,)), ("over",)), ((1, (0,)), (0, (0,)), ("turned", 0)),
                ((0, (0,)), (0, (0,)), ("letter",)), ((0, (0,)), (0, (1, 1)), ("letter",)),
                ((0, (1, 1)), (0, (0,)), ("letter",))]
        self.assertIsNone(first_wrong(one, other, rows))
        for turns in [[(0, (0,)), (1, (0,))], [(1, (0,)), (0, (0,))], [(2, (0,))], [(3, (1, 1)), (4, (0,))]]:
            self.told(False, shows_apart(one, other, ("ring", rows, turns)))
            self.told(False, plain.is_paper(plain.tree(one), plain.tree(other), ("ring", rows, turns)))

    def test_a_turn_leads_beneath_its_own_row_alone(self):
        one, other = term("f A f B c"), term("f g A f B B")
        rows = [((0, (0,)), (1, (0,)), ("over",)), ((0, (1,)), (1, (1,)), ("over",)),
                ((0, (1, 0)), (1, (1, 0)), ("part", 1, 0))]
        for turns in [[(0, (1, 0))], [(1, (1, 0))], [(2, (1, 0))], [(1, (0, 0))], [(1, (1, 0)), (2, (1, 0))]]:
            self.told(False, shows_apart(one, other, ("ring", rows, turns)))
            self.told(False, plain.is_paper(plain.tree(one), plain.tree(other), ("ring", rows, turns)))

    def test_the_form(self):
        for thing in [["clash", CLASH_ROWS], ("clash",), ("clash", CLASH_ROWS, []), ("Clash", CLASH_ROWS),
                      ("clash", []),
                      ("ring", CLASH_ROWS), (None, CLASH_ROWS), ("clash", None), ("clash", dict(enumerate(CLASH_ROWS))),
                      ("clash", CLASH_ROWS, None), ("clash", CLASH_ROWS[-1]), (), "clash", CLASH_ROWS,
                      {"clash": CLASH_ROWS},
                      (["clash"], CLASH_ROWS), (("clash",), CLASH_ROWS), (term("c"), CLASH_ROWS)]:
            self.told(False, shows_apart(*CLASH, thing))
        for thing in [["ring", RING_ROWS, [(7, (1, 0))]], ("ring", RING_ROWS), ("clash", RING_ROWS, [(7, (1, 0))]),
                      ("ring", RING_ROWS, [(7, (1, 0))], []), ("ring", [], [(7, (1, 0))]),
                      ("ring", None, [(7, (1, 0))])]:
            self.told(False, shows_apart(*RING, thing))
        for thing in any_things():
            self.told(False, shows_apart(*CLASH, thing))
            self.told(False, shows_apart(*CLASH, ("clash", thing)))
            self.told(False, shows_apart(*RING, ("ring", RING_ROWS, thing)))
            self.told(False, shows_apart(*RING, ("ring", RING_ROWS, [thing])))
            self.told(False, shows_apart(*RING, ("ring", thing, [(7, (1, 0))])))

    def test_a_paper_of_a_thousand_rows_that_holds_row_by_row(self):
        whys = [why[:1] + tuple([994 + i for i in why[1:]]) for _, _, why in CLASH_ROWS]
        rows = [CLASH_ROWS[0]] * 994 + [(*row[:2], why) for row, why in zip(CLASH_ROWS, whys)]
        self.assertEqual(len(rows), 1000)
        self.told(True, shows_apart(*CLASH, ("clash", rows)))
        self.told(False, shows_apart(*CLASH, ("clash", rows[:1] + rows)))
        self.told(False, shows_apart(*CLASH, ("clash", tuple(rows + rows[-1:]))))
        turns = [(7, (1, 0))] * 1010
        self.told(True, shows_apart(*RING, ("ring", RING_ROWS, turns)))
        self.told(True, shows_apart(*RING, ("ring", RING_ROWS + RING_ROWS[:1] * 992, turns)))
        self.told(False, shows_apart(*RING, ("ring", RING_ROWS + RING_ROWS[:1] * 993, turns)))

    def test_put_otherwise_at_one_place(self):
        papers = [(CLASH, ("clash", CLASH_ROWS)), (RING, ("ring", RING_ROWS, [(7, (1, 0))])),
                  (CLASH, why_apart(*CLASH)), (RING, why_apart(*RING)),
                  ((term("f A g A"), term("f g B B")), why_apart(term("f A g A"), term("f g B B")))]
        for pair, paper in papers:
            trees = [plain.tree(side) for side in pair]
            shown = 0
            for thing in [paper] + touched(paper):
                truth = plain.is_paper(*trees, thing)
                shown += truth
                self.told(truth, shows_apart(*pair, thing))
            self.assertGreater(shown, 1)

    def test_two_that_meet_have_none(self):
        for thing in [("clash", CLASH_ROWS), ("ring", RING_ROWS, [(7, (1, 0))]), None]:
            self.told(False, shows_apart(term("f A B"), term("f B B"), thing))


class Just(Case):
    def looked_at(self, one, other):
        told = why_apart(one, other)
        self.assertEqual(told is None, meeting(one, other) is not None)
        if told is not None:
            self.told(True, shows_apart(one, other, told))
            self.assertTrue(plain.is_paper(plain.tree(one), plain.tree(other), told))
            self.assertTrue(1 <= len(told[1]) <= 1000)
            self.assertIsNone(first_wrong(one, other, told[1]))
        return None if told is None else told[0]

    def test_all_small_terms(self):
        words = [self.looked_at(term(one), term(other)) for one, other in itertools.product(ALL, repeat=2)]
        for word in (None, "clash", "ring"):
            self.assertGreater(words.count(word), 20)

    def test_terms_by_chance(self):
        chance = Chance(5)
        words = []
        for _ in range(800):
            words.append(self.looked_at(*chance.pair()))
        for word in (None, "clash", "ring"):
            self.assertGreater(words.count(word), 20)

    def test_rings_over_several_letters_and_over_several_numbers(self):
        for one, other in [("f f A B f A B", "f f C D f g D g C"), ("f A g g g g g g A", "f B B"),
                           ("f A f c g A", "f B B"), ("f f A B f B A", "f f g C g D f C D")]:
            self.assertEqual(self.looked_at(term(one), term(other)), "ring")
        one, other = term("f h A B C h A B C", WIDE), term("f h D E F h g E g F g D", WIDE)
        self.assertEqual(self.looked_at(one, other), "ring")
        self.assertGreaterEqual(len(why_apart(one, other)[2]), 3)

    def test_a_term_with_itself_its_variant_and_a_letter_meets(self):
        for text in ALL:
            for other in (text, text.replace("A", "Z9"), "A", "Z"):
                self.assertIsNone(why_apart(term(text), term(other)))
                self.assertIsNone(why_apart(term(other), term(text)))


class Refusals(Case):
    def test_in_their_order(self):
        for ask in (why_apart, lambda a, b: shows_apart(a, b, None), lambda a, b: first_wrong(a, b, None)):
            self.refuses_two(ask)

    def test_sixteen_signs_are_not_too_many(self):
        self.assertIsNone(why_apart(self.sixteen(), self.sixteen()))

    def test_no_list_of_rows(self):
        for thing in things_but(list, tuple):
            self.found(NoList, thing, first_wrong, *CLASH, thing)


class Stays(Case):
    def test_lists_are_new_ones(self):
        for pair in (CLASH, RING):
            told = why_apart(*pair)
            told[1].clear()
            told[-1].append(None)
            self.told(True, shows_apart(*pair, why_apart(*pair)))
            self.assertEqual(why_apart(*pair), why_apart(*pair))

    def test_what_is_handed_in_stays_as_it_was(self):
        for thing in any_things() + [("clash", CLASH_ROWS), ("ring", RING_ROWS, [(7, (1, 0))])]:
            before = marked([CLASH, thing])
            self.assertEqual(shows_apart(*CLASH, thing), shows_apart(*CLASH, thing))
            self.assertEqual(marked([CLASH, thing]), before)
        before = marked(CLASH_ROWS)
        self.assertIsNone(first_wrong(*CLASH, CLASH_ROWS))
        self.assertEqual(marked(CLASH_ROWS), before)


if __name__ == "__main__":
    unittest.main()
