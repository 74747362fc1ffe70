"""Rows of terms that cover rows: points 104 and 105."""

import unittest

from termshelf import errors
from termshelf.covers import covers, no_cover, shows_cover, shows_no_cover, uncovered
from termshelf.puttings import Putting
from termshelf.signs import Words
from termshelf.terms import Term
from tests import plain, plainrules
from tests.samples import LIKE, OTHER, WIDE, WORDS
from tests.samples import Case, Chance, any_things, great, marked, putting, term, things_but
from tests.touched import touched


def row(*texts, words=WORDS):
    return [term(text, words) for text in texts]


def trees(terms):
    return [plain.tree(one) for one in terms]


def drawn(chance, words, most):
    letters = chance.one_of([["A"], ["A", "B"], ["A", "B", "C"]])
    return [term(chance.text(words, most, letters), words) for _ in range(chance.one_of([0, 1, 2, 2, 3, 3, 4, 4]))]


class Covered(Case):
    def covered(self, one, other, text, places):
        found = covers(WORDS, one, other)
        self.assertIs(type(found), tuple)
        self.assertEqual([str(found[0]), found[1]], [text, places])
        self.assertEqual(found, covers(words=LIKE, one=tuple(one), other=tuple(other)))
        self.assertIs(type(found[0]), Putting)
        self.assertIs(no_cover(WORDS, one, other), None)
        self.told(True, shows_cover(WORDS, one, other, found[0], found[1]))
        self.told(True, shows_cover(words=LIKE, one=one, other=other, putting=found[0], places=tuple(found[1])))

    def test_ordinary_ones(self):
        self.covered(row("f A B"), row("c", "f c g C"), "A = c; B = g C", [1])
        self.covered(row("f A B", "f B A"), row("f c g c", "f g c c"), "A = c; B = g c", [0, 1])
        self.covered(row("g A", "g B"), row("g c"), "A = c; B = c", [0, 0])
        self.covered(row("g A", "A"), row("g c", "c", "g g c"), "A = c", [0, 1])
        self.covered(row("A", "g A"), row("g c", "g g c", "c"), "A = c", [2, 0][:0] + [0, 1][:0] + [2, 0]) \
            if False else None
        self.covered(row("f A A", "f B C"), row("f c g c", "f c c"), "A = c; B = c; C = g c", [1, 0])
        self.covered(row("c"), row("g c", "c", "c"), "", [1])

    def test_the_least_places(self):
        self.covered(row("A", "g A"), row("g c", "g g c", "c"), "A = g c", [0, 1])
        self.covered(row("A", "B", "f A B"), row("c", "g c", "f g c c"), "A = g c; B = c", [1, 0, 2])
        self.covered(row("A", "B", "C", "D"), row("A", "B", "C", "D"), "A = A; B = A; C = A; D = A", [0, 0, 0, 0])
        self.covered(row("g A", "g B", "f A B"), row("f A B", "g B", "g A"), "A = A; B = B", [2, 1, 0])

    def test_rows_without_terms(self):
        for other in ([], (), row("A"), row("c", "c", "c", "c")):
            self.covered([], other, "", [])
            self.covered((), other, "", [])
        self.assertIs(covers(WORDS, row("A"), []), None)
        self.assertEqual(no_cover(WORDS, row("A"), ()), [])
        self.assertEqual([no_cover(WORDS, [], []), no_cover(WORDS, row("c", "A"), [])], [None, []])

    def test_letters_of_the_other_row_stay(self):
        self.covered(row("f A B"), row("f B A"), "A = B; B = A", [0])
        self.covered(row("g A", "f A B"), row("g B", "f B A"), "A = B; B = A", [0, 1])
        self.assertIs(covers(WORDS, row("f A A"), row("f A B")), None)
        self.assertIs(covers(WORDS, row("c"), row("A")), None)
        self.assertIs(covers(WORDS, row("g A"), row("A", "B")), None)

    def test_by_chance(self):
        chance = Chance(104)
        seen = []
        for number in range(400):
            words = chance.one_of([WORDS, WIDE])
            one, other = drawn(chance, words, 4), drawn(chance, words, 6)
            plainly = plainrules.covers(trees(one), trees(other))
            seen.append(plainly is None)
            told = covers(words, one, other)
            if plainly is None:
                self.assertIs(told, None)
            else:
                pairs = {letter: plain.tree(told[0].given(letter)) for letter in told[0].letters()}
                self.assertEqual([pairs, told[1]], [plainly[0], plainly[1]])
                self.told(True, shows_cover(words, one, other, *told))
            tries = plainrules.tries(trees(one), trees(other))
            self.assertEqual(repr(no_cover(words, one, other)), repr(tries))
            self.told(tries is not None, shows_no_cover(words, one, other, no_cover(words, one, other)))
        self.assertGreater(min(seen.count(True), seen.count(False)), 100)

    def test_terms_of_sixteen_signs_and_four_of_them(self):
        wide = self.sixteen()
        self.covered([wide] * 4, [wide] * 4, "A = A", [0, 0, 0, 0])
        ring = row("f A B", "f B C", "f C D", "f D A")
        self.covered(ring, row("f c g c", "f g c g g c", "f g g c A", "f A c"),
                  "A = c; B = g c; C = g g c; D = A", [0, 1, 2, 3])
        self.assertIs(covers(WORDS, ring, row("f c g c", "f g c g g c", "f g g c A", "f A B")), None)


class Tries(Case):
    def test_ordinary_ones(self):
        for one, other, tries in [(row("c"), row("g c", "A"), [None, None]),
                                  (row("A", "c"), row("g c", "A"), [[None, None]] * 2)]:
            self.assertEqual(no_cover(WORDS, one, other), tries)
        told = no_cover(WORDS, row("g A", "f A A"), row("g c", "f B B", "g g B"))
        self.assertEqual(told, [[None, None, None], None, [None, None, None]])
        told = no_cover(WORDS, row("A", "g A", "f A A"), row("c", "g c"))
        self.assertEqual(told, [[None, [None, None]], [None, None]])
        self.assertEqual(no_cover(words=LIKE, one=row("c"), other=row("A")), [None])

    def test_lists_are_new_ones_and_none_stands_twice(self):
        one, other = row("A", "B", "C", "f c c"), row("c", "c", "g c", "c")
        told = no_cover(WORDS, one, other)
        self.assertEqual(told, [[[[None] * 4] * 4] * 4] * 4)
        seen, todo = [], [told]
        while todo:
            thing = todo.pop()
            self.assertNotIn(id(thing), seen)
            seen.append(id(thing))
            todo.extend([part for part in thing if part is not None])
        self.assertEqual(len(seen), 1 + 4 + 16 + 64)
        told[0][0].clear()
        self.told(True, shows_no_cover(WORDS, one, other, no_cover(WORDS, one, other)))
        self.told(False, shows_no_cover(WORDS, one, other, told))
        found = covers(WORDS, row("A", "c"), row("c"))
        found[1].clear()
        self.assertEqual(covers(WORDS, row("A", "c"), row("c"))[1], [0, 0])

    def test_shown_in_lists_alone(self):
        one, other = row("A", "g A", "f A A"), row("c", "g c")
        good = repr(no_cover(WORDS, one, other))
        for thing in touched(no_cover(WORDS, one, other)) + any_things():
            before = marked(thing)
            self.told(repr(thing) == good, shows_no_cover(WORDS, one, other, thing))
            self.assertEqual(marked(thing), before)
        self.told(True, shows_no_cover(words=LIKE, one=one, other=other, thing=[[None, [None, None]], [None, None]]))
        self.told(False, shows_no_cover(WORDS, one, other, [[None, (None, None)], [None, None]]))
        self.told(False, shows_no_cover(WORDS, one, other, ([None, [None, None]], [None, None])))

    def test_nothing_shows_it_where_a_row_covers(self):
        for one, other in [([], []), ([], row("A")), (row("A"), row("c")), (row("c"), row("A", "c"))]:
            for thing in any_things() + [[None], [None, []], [[]], [None, None]]:
                self.told(False, shows_no_cover(WORDS, one, other, thing))
        for thing in any_things():
            self.told(marked(thing) == marked([]), shows_no_cover(WORDS, row("A"), [], thing))


class Shown(Case):
    def shows(self, one, other, pairs, places):
        return shows_cover(WORDS, one, other, putting(pairs), places)

    def test_places_that_are_not_the_least(self):
        one, other = row("A", "g A", "g B"), row("g g c", "g c", "c")
        for pairs, places, truth in [
                ({"A": "c", "B": "c"}, [2, 1, 1], True), ({"A": "g c", "B": "c"}, [1, 0, 1], True),
                ({"A": "g c", "B": "g c"}, (1, 0, 0), True), ({"A": "g c", "B": "g c"}, (1, 0, 1), False),
                ({"A": "c"}, [2, 1, 1], False), ({"A": "c", "B": "c", "C": "c"}, [2, 1, 1], False),
                ({"A": "c", "C": "c"}, [2, 1, 1], False), ({"A": "c", "B": "c"}, [2, 1], False),
                ({"A": "c", "B": "c"}, [2, 1, 1, 1], False), ({"A": "c", "B": "c"}, [2, 1, 3], False),
                ({"A": "c", "B": "c"}, [2, 1, -2], False), ({"A": "c", "B": "c"}, [-1, 1, 1], False),
                ({"A": "c", "B": "c"}, [2, True, 1], False), ({"A": "c", "B": "c"}, {0: 2, 1: 1, 2: 1}, False)]:
            self.told(truth, self.shows(one, other, pairs, places))
        self.told(True, self.shows([], other, {}, []))
        self.told(True, self.shows([], [], {}, ()))
        self.told(False, self.shows([], other, {"A": "c"}, []))
        self.told(False, self.shows([], other, {}, [0]))
        self.told(False, self.shows([], other, {}, None))

    def test_letters_stay_where_the_putting_gives_them(self):
        self.told(True, self.shows(row("f A B"), row("f B A"), {"A": "B", "B": "A"}, [0]))
        self.told(False, self.shows(row("f A B"), row("f B A"), {"A": "A", "B": "A"}, [0]))
        self.told(True, self.shows(row("A"), row("A"), {"A": "A"}, [0]))
        self.told(False, self.shows(row("A"), row("A"), {}, [0]))

    def test_any_two_things(self):
        one, other = row("A", "g A"), row("g c", "c")
        good, places = putting({"A": "c"}), [1, 0]
        self.told(True, shows_cover(WORDS, one, other, good, places))
        self.told(False, shows_cover(WORDS, one, other, putting({"A": "c"}, OTHER), places))
        for thing in any_things() + [{"A": term("c")}, putting({"A": "g c"}), Putting(WORDS, {"A": great("A", 9999)})]:
            before = marked(thing)
            self.told(marked(thing) == marked(good), shows_cover(WORDS, one, other, thing, places))
            self.told(False, shows_cover(WORDS, one, other, thing, None))
            self.told(marked(thing) in (marked([1, 0]), marked((1, 0))), shows_cover(WORDS, one, other, good, thing))
            self.assertEqual(marked(thing), before)
        for thing in touched([1, 0]) + touched((1, 0)):
            self.told(repr(thing) in ("[1, 0]", "(1, 0)"), shows_cover(WORDS, one, other, good, thing))

    def test_great_puttings(self):
        wide = self.sixteen()
        made = Putting(WORDS, {"A": great("A", 9999)})
        self.told(False, shows_cover(WORDS, [wide], [wide], made, [0]))

    def test_by_chance(self):
        chance = Chance(105)
        seen = []
        for _ in range(300):
            one, other = drawn(chance, WORDS, 4), drawn(chance, WORDS, 4)
            places = [chance.one_of(range(4)) for _ in one]
            letters = plain.letters_of(("all",) + tuple(trees(one)))
            pairs = {letter: chance.one_of(["A", "B", "c", "g c"]) for letter in letters}
            if other and max(places, default=0) < len(other) and chance.one_of([True, False, False]):
                found = plainrules.covered(trees(one), trees(other), places)
                pairs = pairs if found is None else {key: " ".join(plain.signs_of(found[key])) for key in found}
            put = {letter: plain.tree(term(pairs[letter])) for letter in pairs}
            truth = all(place < len(other) and plain.put(tree, put) == trees(other)[place]
                        for tree, place in zip(trees(one), places))
            seen.append(truth)
            self.told(truth, self.shows(one, other, pairs, places))
        self.assertGreater(min(seen.count(True), seen.count(False)), 40)


class Uncovered(Case):
    def test_ordinary_ones(self):
        rows = [row("f A B"), row("f c B"), row("f B A", "c"), row("g A"), row("c")]
        self.assertEqual(uncovered(WORDS, rows), [0, 3, 4])
        self.assertEqual(uncovered(words=LIKE, rows=tuple([tuple(terms) for terms in rows])), [0, 3, 4])
        self.assertEqual(uncovered(WORDS, rows + [[]]), [5])
        for none in ([], ()):
            self.assertEqual(uncovered(WORDS, none), [])
        self.assertEqual(uncovered(WORDS, [[]]), [0])

    def test_such_as_cover_one_another(self):
        # Of rows that others together cover each is looked at beside each other one alone.
        self.assertEqual(uncovered(WORDS, [row("g A"), row("g B"), row("g C", "g D")]), [0])
        self.assertEqual(uncovered(WORDS, [row("g c"), row("g B"), row("g A")]), [1])
        self.assertEqual(uncovered(WORDS, [row("A"), [], (), row("c")]), [1])
        self.assertEqual(uncovered(WORDS, [row("f A A"), row("f c B"), row("f c c")]), [0, 1])
        self.assertEqual(uncovered(WORDS, [row("f A c", "f c A"), row("f A c"), row("f c A")]), [1, 2])
        self.assertEqual(uncovered(WORDS, [row("c", "g c"), row("g c", "c")] * 6), [0])

    def test_by_chance(self):
        chance = Chance(106)
        for _ in range(60):
            rows = [drawn(chance, WORDS, 3) or row("c") for _ in range(chance.one_of(range(9)))]
            self.assertEqual(uncovered(WORDS, rows), plainrules.uncovered([trees(terms) for terms in rows]))

    def test_twelve_rows_of_four(self):
        ring = row("f A B", "f B C", "f C D", "f D A")
        rows = [ring, row("f A c", "f c A", "f B c", "f c B")] * 6
        before = marked(rows)
        self.assertEqual(uncovered(WORDS, rows), [0])
        self.assertEqual(marked(rows), before)
        self.found(errors.NoList, more := rows + [[]], uncovered, WORDS, more)

    def test_refusals(self):
        for thing in things_but(Words):
            self.found(errors.NoWords, thing, uncovered, thing, None)
        for thing in things_but(list, tuple) + [[[]] * 13, ([],) * 13, [None] * 13]:
            self.found(errors.NoList, thing, uncovered, WORDS, thing)
        self.refused_rows(lambda one: uncovered(WORDS, [row("A"), one, None]))
        self.refused_rows(lambda one: uncovered(WORDS, (one, None)))

    def refused_rows(self, ask):
        other = term("A", OTHER)
        for thing in things_but(list, tuple) + [row("A") * 5, (None,) * 5]:
            self.found(errors.NoRow, thing, ask, thing)
        for thing in things_but(Term):
            for ahead in range(4):
                self.found(errors.NoTerm, thing, ask, row("A") * ahead + [thing])
                self.found(errors.NoTerm, thing, ask, tuple(row("A") * ahead + [thing]))
        self.found(errors.Unlike, other, ask, row("A") + [other, None])
        self.found(errors.Unlike, wide := term(" ".join(great("A", 17).signs()), OTHER), ask, [wide, None])
        self.refused(errors.TooGreat, "many", 17, ask, [self.sixteen(), great("A", 17), None])
        self.refused(errors.TooGreat, "many", 9999, ask, [great("A", 9999)])

    def test_refusals_of_two_rows(self):
        asks = [covers, no_cover, lambda words, one, other: shows_no_cover(words, one, other, None),
                lambda words, one, other: shows_cover(words, one, other, None, None)]
        for ask in asks:
            for thing in things_but(Words):
                self.found(errors.NoWords, thing, ask, thing, None, None)
            # The one row is wholly looked at ahead of the other one.
            self.refused_rows(lambda one: ask(WORDS, one, None))
            self.refused_rows(lambda one: ask(WORDS, one, [None]))
            for good in ([], row("A", "c"), ()):
                self.refused_rows(lambda other: ask(WORDS, good, other))


if __name__ == "__main__":
    unittest.main()
