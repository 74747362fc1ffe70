"""What bars an ask from a pattern, and the shelf of the kind `puts`: points 75 and 76."""

import itertools
import unittest

from termshelf import errors
from termshelf.putbars import bar_of, shows_bar
from termshelf.putshelf import PutShelf
from termshelf.puttree import PutNode, common_part, fits
from termshelf.signs import Words
from termshelf.terms import Term
from tests import plain, plainshelves
from tests.samples import LIKE, ONE, OTHER, WAYS, WIDE, WORDS
from tests.samples import Case, Chance, any_things, great, marked, shelf_of, term, terms_of, things_but
from tests.touched import touched

PATTERNS = [text.split(" ") for text in terms_of(4, ["N0", "N1", "?"])]
SMALL = [text for text in terms_of(5, ["N0", "N1"]) if term(text).is_normal()]


def all_forms(pattern, ask):
    """All things of the forms of 75 whose spots are spots of one of both, and some others."""
    spots = list(dict.fromkeys(spot for tree in (pattern, ask) for spot in plain.parts_of(tree)))
    spots += [(2,), (0, 0, 0, 0), (True,)]
    told = [("apart",), ("apart", ()), ("sign",), ("letter",), ("letter", ()), (), ("sign", (), (), ())]
    told += [("sign", spot) for spot in spots]
    pairs = list(itertools.product(spots, repeat=2))
    return told + [(word, first, spot) for word in ("letter", "sign") for first, spot in pairs]


class Bars(Case):
    def looked_at(self, words, pattern, way, ask):
        tree, asked = plain.tree_of(words, pattern), plain.tree(ask)
        told = bar_of(words, pattern, way, ask)
        self.assertEqual(repr(told), repr(plainshelves.first_bar(words, tree, way, asked)))
        if told is not None:
            self.told(True, shows_bar(words, pattern, way, ask, told))
        return told

    def shown(self, words, pattern, way, ask):
        tree, asked = plain.tree_of(words, pattern), plain.tree(ask)
        good = [repr(bar) for bar in plainshelves.bars(words, tree, way, asked)]
        for thing in all_forms(tree, asked):
            self.told(repr(thing) in good, shows_bar(words, pattern, way, ask, thing))

    def test_ordinary_ones(self):
        for way, pattern, ask, told in [
                ("variants", "f ? N0", "f A A", None), ("variants", "f ? N0", "f A B", ("sign", (1,))),
                ("variants", "f N0 c", "f A A", ("sign", (1,))), ("variants", "?", "f A A", None),
                ("variants", "f g N0 ?", "f B c", ("sign", (0,))), ("variants", "f ? c", "f g A B", ("sign", (1,))),
                ("above", "f ? c", "f A B", ("sign", (1,))), ("above", "f N0 N0", "f A B", ("letter", (0,), (1,))),
                ("above", "f N0 f ? N0", "f A f B A", None), ("above", "N0", "A", None),
                ("above", "c", "A", ("sign", ())),
                ("above", "f N0 f N0 N0", "f A f A B", ("letter", (0,), (1, 1))),
                ("above", "f g ? N0", "f c A", ("sign", (0,))), ("above", "f ? ?", "f A B", None),
                ("instances", "f ? c", "f g A A", None), ("instances", "f N0 c", "f g A A", ("sign", (0,))),
                ("instances", "f N0 c", "f A A", ("letter", (0,), (1,))), ("instances", "f ? c", "f A A", None),
                ("instances", "f g ? g c", "f A A", None), ("instances", "f g ? c", "f A A", ("letter", (0,), (1,))),
                ("instances", "f c f ? g c", "f A f B A", ("letter", (0,), (1, 1))),
                ("instances", "f ? f c g c", "f A f A A", ("letter", (1, 0), (1, 1))),
                ("instances", "f ? c", "f f A A A", None), ("instances", "N0", "c", ("sign", ())),
                ("instances", "f f ? c f c g c", "f A A", ("letter", (0,), (1,))),
                ("instances", "f f c g c f ? c", "f A A", ("letter", (0,), (1,))),
                ("instances", "f f ? c f g c c", "f A A", None), ("instances", "f f g c c f ? c", "f A A", None),
                ("meets", "f ? c", "f A A", None), ("meets", "f N0 g N0", "f A A", ("apart",)),
                ("meets", "f ? g ?", "f A A", None), ("meets", "c", "g A", ("apart",)), ("meets", "?", "g A", None)]:
            self.assertEqual(bar_of(WORDS, pattern.split(" "), way, term(ask)), told)
            self.assertEqual(bar_of(words=LIKE, pattern=tuple(pattern.split(" ")), way=way, term=term(ask)), told)
            self.assertEqual(self.looked_at(WORDS, pattern.split(" "), way, term(ask)), told)

    def test_all_small_ones(self):
        for pattern, ask in itertools.product(PATTERNS, terms_of(4)):
            for way in WAYS:
                self.looked_at(WORDS, pattern, way, term(ask))

    def test_all_that_is_shown_of_small_ones(self):
        chance = Chance(75)
        for _ in range(300):
            pattern, ask = chance.one_of(PATTERNS[-120:]), chance.one_of(terms_of(4))
            for way in WAYS:
                self.shown(WORDS, pattern, way, term(ask))

    def test_by_chance(self):
        chance = Chance(76)
        seen = set()
        for _ in range(300):
            words = chance.one_of([WORDS, WIDE, ONE])
            pattern = chance.text(words, 16, chance.one_of([["?"], ["?", "N0"], ["N0", "N1", "?"]])).split(" ")
            ask = term(chance.text(words, 16, chance.one_of([["A"], ["A", "B"], ["N0", "N1"]])), words)
            for way in WAYS:
                told = self.looked_at(words, pattern, way, ask)
                seen.add((way, None if told is None else told[0]))
                self.shown(words, pattern, way, ask)
        # Each way was seen to bar in each of its forms, and not to bar.
        bars = {"variants": ["sign"], "above": ["sign", "letter"], "instances": ["sign", "letter"], "meets": ["apart"]}
        self.assertEqual(seen, {(way, bar) for way in WAYS for bar in bars[way] + [None]})

    def test_what_is_barred_is_told_nowhere(self):
        for pattern, ask in itertools.product(PATTERNS[:40], ["A", "f A A", "f A B", "g A", "f g A A", "c", "f c A"]):
            kept = [term(text) for text in SMALL if fits(pattern, term(text))]
            for way in WAYS:
                if bar_of(WORDS, pattern, way, term(ask)) is not None:
                    for one in kept:
                        self.told(False, plainshelves.tells(way, plain.tree(term(ask)), plain.tree(one)))

    def test_a_bar_put_otherwise(self):
        for way, pattern, ask in [("variants", "f ? N0", "f A B"), ("above", "f ? c", "f A B"),
                                  ("above", "f N0 N0", "f A B"), ("instances", "f g ? c", "f A A"),
                                  ("instances", "f N0 c", "f g A A"), ("meets", "f N0 g N0", "f A A")]:
            pattern = pattern.split(" ")
            trees = (plain.tree_of(WORDS, pattern), way, plain.tree(term(ask)))
            good = [repr(bar) for bar in plainshelves.bars(WORDS, *trees)]
            for thing in touched(bar_of(WORDS, pattern, way, term(ask))) + any_things():
                before = marked(thing)
                self.told(repr(thing) in good, shows_bar(WORDS, pattern, way, term(ask), thing))
                self.assertEqual(marked(thing), before)

    def test_the_first_spot_of_a_letter_may_be_another_one(self):
        pattern, ask = "f N0 f N0 N0".split(" "), term("f A f A B")
        for first in ((0,), (1, 0)):
            self.told(True, shows_bar(WORDS, pattern, "above", ask, ("letter", first, (1, 1))))
            self.told(False, shows_bar(WORDS, pattern, "above", ask, ("letter", (1, 1), first)))
        self.told(False, shows_bar(WORDS, pattern, "above", ask, ("letter", (0,), (1, 0))))
        pattern = "f c f c g ?".split(" ")
        for first in ((0,), (1, 0)):
            self.told(True, shows_bar(WORDS, pattern, "instances", term("f A f A A"), ("letter", first, (1, 1))))
            self.told(False, shows_bar(WORDS, pattern, "instances", term("f A f A A"), ("letter", (1, 1), first)))

    def test_refusals(self):
        other, wide = term("A", OTHER), great("A", 17)
        for ask in (bar_of, lambda *things: shows_bar(*things, None)):
            for thing in things_but(Words):
                self.found(errors.NoWords, thing, ask, thing, None, None, None)
            good = (["A"], ("A",), ["f", "A", "c"])
            patterns = [thing for thing in any_things() if not isinstance(thing, (list, tuple)) or thing not in good]
            for thing in patterns + [["g"] * 16 + ["?"], ["g"] * 17, ["d"], ["?", "?"], ["f", "?"]]:
                self.found(errors.NoList, thing, ask, WORDS, thing, None, None)
            for pattern in (["?"], ("f", "?", "A"), ["g"] * 15 + ["?"]):
                for thing in any_things() + ["Meets", "above "]:
                    self.found(errors.NoWay, thing, ask, WORDS, pattern, thing, None)
                for way in WAYS:
                    for thing in things_but(Term):
                        self.found(errors.NoTerm, thing, ask, WORDS, pattern, way, thing)
                    self.found(errors.Unlike, other, ask, WORDS, pattern, way, other)
                    self.refused(errors.TooGreat, "many", 17, ask, WORDS, pattern, way, wide)
                    ask(WORDS, pattern, way, self.sixteen())


class Shelves(Case):
    def looked_at(self, shelf, way, ask):
        """The walk of a shelf, from the tree's node on, child by child."""
        todo, gone, leaves = [] if shelf.tree() is None else [()], [], []
        while todo:
            path = todo.pop(0)
            node = shelf.tree().node_at(path)
            bar = bar_of(shelf.words(), node.pattern(), way, ask)
            gone.append((path, bar))
            if bar is None:
                todo = [path + (number,) for number in range(len(node.children()))] + todo
                leaves += [str(kept) for kept in node.terms() if len(node.terms()) == 1]
        self.assertEqual([shelf.walk(way, ask), shelf.steps(way, ask)], [gone, len(gone)])
        candidates = [str(kept) for kept in shelf.candidates(way, ask)]
        self.assertEqual(sorted(candidates), sorted(leaves))
        self.assertEqual(sorted(candidates), sorted(str(answer.kept()) for answer in shelf.ask(way, ask)))
        self.assertLessEqual(len(gone), 1 + sum(len(kept) for kept in shelf.terms()))

    def test_ordinary_one(self):
        shelf = shelf_of(PutShelf, ["f A B : one", "f A A : one", "c : one", "f c A : one"])
        self.assertEqual(shelf.nodes(), [
            ((), ["?"]), ((0,), ["f", "?", "?"]), ((0, 0), ["f", "N0", "?"]), ((0, 0, 0), ["f", "N0", "N0"]),
            ((0, 0, 1), ["f", "N0", "N1"]), ((0, 1), ["f", "c", "N0"]), ((1,), ["c"])])
        self.assertEqual(shelf.tree(), PutNode(shelf.terms()))
        self.assertEqual(shelf.walk("variants", term("f B B")), [
            ((), None), ((0,), None), ((0, 0), None), ((0, 0, 0), None), ((0, 0, 1), ("sign", (1,))),
            ((0, 1), ("sign", (0,))), ((1,), ("sign", ()))])
        self.assertEqual(shelf.walk(way="meets", term=term("c")), [((), None), ((0,), ("apart",)), ((1,), None)])
        self.assertEqual(shelf.steps(way="meets", term=term("c")), 3)

    def test_without_terms_and_with_one(self):
        shelf = PutShelf(WORDS)
        for way in WAYS:
            self.assertEqual([shelf.walk(way, term("A")), shelf.steps(way, term("A"))], [[], 0])
            self.assertEqual(shelf.ask(way, term("A")), [])
        self.assertEqual([shelf.tree(), shelf.nodes(), shelf.candidates("meets", term("A"))], [None, [], []])
        shelf.put(term("f B A"), "one")
        self.assertEqual([str(shelf.tree()), shelf.nodes()], ["f N0 N1", [((), ["f", "N0", "N1"])]])
        self.assertEqual(shelf.walk("meets", term("c")), [((), ("apart",))])
        shelf.take(term("f B A"), "one")
        self.assertEqual([shelf.tree(), shelf.nodes(), shelf.walk("meets", term("A"))], [None, [], []])

    def test_histories(self):
        for seed in range(8):
            chance = Chance(seed)
            words = chance.one_of([WORDS, WIDE])
            shelf = PutShelf(words)
            for _ in range(40):
                made = chance.one_of(shelf.terms()[:1] + [term(chance.text(words, 16, ["A", "B", "C"]), words)])
                note = chance.one_of(["a", "b"])
                deed = shelf.take if shelf.has(made) and note in shelf.notes(made) else shelf.put
                deed(made, note)
                if len(shelf) > 0:
                    self.assertEqual(shelf.tree(), PutNode(shelf.terms()))
                    self.assertEqual(shelf.nodes()[0], ((), common_part(shelf.terms())))
            for way, text in itertools.product(WAYS, ["A"] + [chance.text(words, 16, ["A", "B"]) for _ in range(4)]):
                self.looked_at(shelf, way, term(text, words))
            for way, kept in itertools.product(WAYS, shelf.terms()):
                self.looked_at(shelf, way, kept)
                self.looked_at(shelf.copied(), way, kept)
            tree = plainshelves.put_tree(words, [plain.tree(kept) for kept in shelf.terms()])
            nodes = plainshelves.put_nodes(tree)
            self.assertEqual(shelf.nodes(), [(path, plain.signs_of(node[1])) for path, node in nodes.items()])

    def test_full_shelves(self):
        shelf = shelf_of(PutShelf, [f"{text} : one" for text in SMALL[:40]])
        falling = shelf_of(PutShelf, [f"{text} : one" for text in SMALL[:40][::-1]])
        self.assertEqual([shelf.tree(), shelf.nodes()], [falling.tree(), falling.nodes()])
        for way, ask in itertools.product(WAYS, terms_of(4)):
            self.looked_at(shelf, way, term(ask))
            self.assertEqual(shelf.walk(way, term(ask)), falling.walk(way, term(ask)))

    def test_it_stays_right_where_deeds_are_taken_back(self):
        shelf = shelf_of(PutShelf, ["f A B : one", "c : one"])
        before = shelf.nodes()
        rows = [("put", term("g A"), "a"), ("take", term("c"), "one"), ("put", term("A"), "b"), ("put", term("A"), "b")]
        self.found(errors.Twice, "b", shelf.all_deeds, rows)
        self.assertEqual([shelf.nodes(), shelf.tree()], [before, PutNode(shelf.terms())])
        self.looked_at(shelf, "instances", term("A"))

    def test_what_is_told_is_the_askers_own(self):
        shelf = shelf_of(PutShelf, ["f A B : one", "c : one"])
        tree = shelf.tree()
        for told in (shelf.nodes(), shelf.nodes()[0][1], shelf.walk("meets", term("A")), tree.children(), tree.terms()):
            told.clear()
        self.assertEqual(shelf.nodes(), [((), ["?"]), ((0,), ["f", "N0", "N1"]), ((1,), ["c"])])
        shelf.put(term("g A"), "one")
        self.assertEqual([len(tree), len(shelf.tree())], [3, 4])


if __name__ == "__main__":
    unittest.main()
