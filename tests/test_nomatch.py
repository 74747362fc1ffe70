"""Why not: points 44 to 47."""

import itertools
import unittest

from termshelf.apart import shows_apart, why_apart
from termshelf.errors import NoWay
from termshelf.nomatch import shows_no_variant, shows_not, shows_unlike, why_no_variant, why_not, why_unlike
from termshelf.puttings import matched
from termshelf.terms import variants
from tests import plain
from tests.samples import LIKE, OTHER, Case, Chance, any_things, marked, term, terms_of, things_but
from tests.touched import touched

ALL = terms_of(4)
SOME = terms_of(3)
WAYS = ["instances", "above", "meets", "variants"]
# Each asks of a way, a first and a second term.
ASKS = {
    "instances": (why_unlike, shows_unlike),
    "meets": (why_apart, shows_apart),
    "variants": (why_no_variant, shows_no_variant),
}


def all_bars(one, other):
    """All things of the forms of 44 whose spots are spots of one of both, and some others."""
    spots = list(dict.fromkeys(one.spots() + other.spots())) + [(2,), (0, 0, 0, 0), (True,)]
    told = [("unlike", spot) for spot in spots]
    return told + [("two", first, spot) for first, spot in itertools.product(spots, repeat=2)]


class Unalike(Case):
    def test_ordinary_ones(self):
        for ask, kept, told in [("c", "A", ("unlike", ())), ("A", "c", None),
                                ("f A g c", "f c g A", ("unlike", (1, 0))),
                                ("f A A", "f B C", ("two", (0,), (1,))), ("f A A", "f B B", None),
                                ("f A f A B", "f c f B c", ("two", (0,), (1, 0))), ("g f A B", "g f B A", None),
                                ("f A f A c", "f B f C B", ("two", (0,), (1, 0))),
                                ("f f A B f A B", "f f c g c f c c", ("two", (0, 1), (1, 1))),
                                ("f A f A A", "f c f c g c", ("two", (0,), (1, 1))),
                                ("f c A", "f g c c", ("unlike", (0,))), ("f g A c", "f g B B", ("unlike", (1,)))]:
            self.assertEqual(why_unlike(term(ask), term(kept)), told)
            self.assertEqual(why_unlike(ask=term(ask), kept=term(kept, LIKE)), told)

    def test_all_small_terms(self):
        for ask, kept in itertools.product(ALL, repeat=2):
            trees = [plain.tree(term(side)) for side in (ask, kept)]
            told = why_unlike(term(ask), term(kept))
            self.assertEqual(repr(told), repr(plain.first_bar(*trees)))
            self.assertEqual(told is None, matched(term(ask), term(kept)) is not None)

    def test_terms_by_chance(self):
        chance = Chance(6)
        for _ in range(600):
            ask, kept = chance.pair()
            told = why_unlike(ask, kept)
            self.assertEqual(repr(told), repr(plain.first_bar(plain.tree(ask), plain.tree(kept))))
            self.told(told is not None, shows_unlike(ask, kept, told))

    def test_what_bars_and_what_does_not(self):
        for ask, kept in itertools.product(SOME + ["f A f A A", "f f A B f A B"], repeat=2):
            ask, kept = term(ask), term(kept)
            good = plain.bars(plain.tree(ask), plain.tree(kept))
            for thing in all_bars(ask, kept):
                self.told(repr(thing) in good, shows_unlike(ask, kept, thing))
            self.assertEqual(good == [], matched(ask, kept) is not None)

    def test_bars_that_are_not_the_first_one(self):
        ask, kept = term("f f A A g c"), term("f f c g c c")
        self.assertEqual(why_unlike(ask, kept), ("two", (0, 0), (0, 1)))
        for thing, truth in [(("unlike", (1,)), True), (("two", (0, 1), (0, 0)), True), (("unlike", (1, 0)), False),
                             (("unlike", (0, 1)), False), (("two", (0, 0), (0, 0)), False), (("unlike", ()), False),
                             (("two", (0, 0), (1,)), False), (("two", (0,), (0, 1)), False)]:
            self.told(truth, shows_unlike(ask, kept, thing))
        # Spots of both that stand beneath unlike words, too.
        self.told(True, shows_unlike(term("g c"), term("f A B"), ("unlike", (0,))))

    def test_put_otherwise_at_one_place(self):
        for ask, kept in [("f A g c", "f c g A"), ("f A f A B", "f c f B c"), ("g c", "f c c")]:
            ask, kept = term(ask), term(kept)
            good = plain.bars(plain.tree(ask), plain.tree(kept))
            for thing in touched(why_unlike(ask, kept)):
                self.told(repr(thing) in good, shows_unlike(ask, kept, thing))

    def test_any_things(self):
        ask, kept = term("f A A"), term("f c g c")
        for thing in any_things():
            self.told(False, shows_unlike(ask, kept, thing))
            self.told(False, shows_unlike(ask, kept, ("unlike", thing)))
            self.told(False, shows_unlike(ask, kept, (thing, (0,))))
            self.told(False, shows_unlike(ask, kept, (thing, (0,), (1,))))
            self.told(thing == (0,) and type(thing[0]) is int, shows_unlike(ask, kept, ("two", thing, (1,))))


class NoVariants(Case):
    def test_ordinary_ones(self):
        for one, other, told in [("f A B", "f B A", None), ("f A B", "f C C", ("unlike", (1,), "N1", "N0")),
                                 ("A", "c", ("unlike", (), "N0", "c")),
                                 ("f g A c", "f g A B", ("unlike", (1,), "c", "N1")),
                                 ("f f A B B", "f f B A B", ("unlike", (1,), "N1", "N0")), ("c", "c", None)]:
            self.assertEqual(why_no_variant(one=term(one), other=term(other, LIKE)), told)

    def test_all_small_terms(self):
        for one, other in itertools.product(ALL, repeat=2):
            told = why_no_variant(term(one), term(other))
            trees = [plain.normal(plain.tree(term(side))) for side in (one, other)]
            heads = [[plain.head_of(part) for part in plain.parts_of(tree).values()] for tree in trees]
            unlike = [at for at in range(min(map(len, heads))) if heads[0][at] != heads[1][at]]
            if trees[0] == trees[1]:
                self.assertIsNone(told)
            else:
                spot = list(plain.parts_of(trees[0]))[unlike[0]]
                self.assertEqual(told, ("unlike", spot, heads[0][unlike[0]], heads[1][unlike[0]]))
            self.told(told is not None, shows_no_variant(term(one), term(other), told))
            self.assertEqual(told is None, variants(term(one), term(other)))

    def test_just_this_tuple_shows_it(self):
        for one, other in [("f A B", "f C C"), ("f A f c g B", "f A f c g A"), ("c", "A"), ("g A", "f A B")]:
            one, other = term(one), term(other)
            told = why_no_variant(one, other)
            for thing in touched(told) + [("unlike", told[1], told[3], told[2]), ("unlike", told[1])]:
                self.told(repr(thing) == repr(told), shows_no_variant(one, other, thing))

    def test_any_things(self):
        one, other = term("f A B"), term("f C C")
        self.told(True, shows_no_variant(one=one, other=other, thing=("unlike", (1,), "N1", "N0")))
        for thing in any_things():
            self.told(False, shows_no_variant(one, other, thing))
            self.told(False, shows_no_variant(one, other, ("unlike", thing, "N1", "N0")))
            self.told(False, shows_no_variant(one, other, ("unlike", (1,), thing, "N0")))
            self.told(repr(thing) == "'N0'", shows_no_variant(one, other, ("unlike", (1,), "N1", thing)))
            self.told(False, shows_no_variant(one, one, thing))
        self.told(False, shows_no_variant(one, other, ("unlike", (True,), "N1", "N0")))


class ByWay(Case):
    def test_the_same_is_told(self):
        for one, other in itertools.product(SOME, repeat=2):
            one, other = term(one), term(other)
            for way, (why, shows) in ASKS.items():
                self.assertEqual(why_not(way, one, other), why(one, other))
                self.assertEqual(why_not(way=way, ask=one, kept=other), why(one, other))
            self.assertEqual(why_not("above", one, other), why_unlike(other, one))

    def test_and_of_any_thing_whether_it_shows_it(self):
        pairs = [("f A A", "f B g B"), ("f A A", "f g B B"), ("f c A", "f A g c"), ("c", "A"), ("A", "A"), ("g A", "c")]
        for one, other in pairs:
            one, other = term(one), term(other)
            papers = [why_not(way, *pair) for way in WAYS for pair in [(one, other), (other, one)]]
            for thing in papers + any_things() + all_bars(one, other):
                for way, (why, shows) in ASKS.items():
                    self.told(shows(one, other, thing), shows_not(way, one, other, thing))
                self.told(shows_unlike(other, one, thing), shows_not(way="above", ask=one, kept=other, thing=thing))
            for way in WAYS:
                told = why_not(way, one, other)
                self.told(told is not None, shows_not(way, one, other, told))

    def test_by_above_the_second_one_is_the_ask(self):
        self.assertIsNone(why_not("above", term("c"), term("A")))
        self.assertEqual(why_not("above", term("A"), term("c")), ("unlike", ()))
        self.assertIsNone(why_not("instances", term("A"), term("c")))
        self.assertEqual(why_not("instances", term("c"), term("A")), ("unlike", ()))


class Refusals(Case):
    def asks(self):
        """Asks of two terms, one after the other."""
        pairs = [why_unlike, why_no_variant]
        pairs += [lambda a, b, shows=shows: shows(a, b, None) for shows in (shows_unlike, shows_no_variant)]
        pairs += [lambda a, b, way=way: why_not(way, a, b) for way in WAYS]
        return pairs + [lambda a, b, way=way: shows_not(way, a, b, None) for way in WAYS]

    def test_no_way_ahead_of_all(self):
        for thing in ["", "instance", "Meets", "above ", "unlike"] + things_but(str):
            self.found(NoWay, thing, why_not, thing, None, None)
            self.found(NoWay, thing, shows_not, thing, None, None, None)
            self.found(NoWay, thing, why_not, thing, term("A"), term("c"))
            self.found(NoWay, thing, shows_not, thing, term("A"), term("A", OTHER), ("unlike", ()))

    def test_terms_in_their_order(self):
        for ask in self.asks():
            self.refuses_two(ask)

    def test_sixteen_signs_are_not_too_many(self):
        for way in WAYS:
            self.assertIsNone(why_not(way, self.sixteen(), self.sixteen()))


class Stays(Case):
    def test_what_is_asked_changes_nothing(self):
        one, other = term("f A A"), term("f g B B")
        for thing in any_things() + [why_not(way, one, other) for way in WAYS]:
            before = marked([one, other, thing])
            for way in WAYS:
                self.assertEqual(shows_not(way, one, other, thing), shows_not(way, one, other, thing))
                self.assertEqual(why_not(way, one, other), why_not(way, one, other))
            self.assertEqual(marked([one, other, thing]), before)


if __name__ == "__main__":
    unittest.main()
