"""Patterns, common parts and trees of puttings: points 71 to 74."""

import itertools
import unittest

from termshelf import errors
from termshelf.puttree import PutNode, common_part, filled, fits, is_pattern
from termshelf.signs import Words
from termshelf.terms import Term
from tests import plain, plainshelves
from tests.samples import LIKE, ONE, OTHER, WIDE, WORDS
from tests.samples import Case, Chance, any_things, great, marked, term, terms_of, things_but

SMALL = [text for text in terms_of(5, ["N0", "N1"]) if term(text).is_normal()]
PATTERNS = terms_of(4, ["N0", "A", "?"])
NO_PATTERNS = [thing for thing in any_things() if not isinstance(thing, (list, tuple)) or list(thing) not in (
    ["A"], ["f", "A", "c"])]
NO_PATTERNS += [["??"], [""], ["? "], ["d"], ["N00"], ["N100"], ["f", "?"], ["f", "?", "?", "?"], ["?", "A"], [None],
                ["f", "?", None], ["f", "?", ["A"]], ["f", ("?",), "A"], ["Ff"], ["f A"], [1], [True], ["?", "?"],
                ["c", "g"], ["?", "g"], ["A", "f", "c"], ["g", "?", "g", "f", "c"]]


def some(texts, words=WORDS):
    return [term(text, words) for text in texts]


def node_of(texts, words=WORDS):
    return PutNode(some(texts, words))


class Patterns(Case):
    def test_of_any_thing(self):
        for text in terms_of(5, ["A", "Z99", "?"]):
            self.told(True, is_pattern(WORDS, text.split(" ")))
            self.told(True, is_pattern(words=WORDS, thing=tuple(text.split(" "))))
            self.told(False, is_pattern(WORDS, text))
            self.told(False, is_pattern(WORDS, text.split(" ") + ["?"]))
            self.told(False, is_pattern(WORDS, text.split(" ")[:-1]))
            self.told(False, is_pattern(ONE, text.split(" ") + ["c"]))
        for thing in NO_PATTERNS:
            self.told(False, is_pattern(WORDS, thing))

    def test_edges_of_signs(self):
        self.told(True, is_pattern(WORDS, ["g"] * 99 + ["?"]))
        self.told(True, is_pattern(WORDS, ["f", "A"] * 49 + ["g", "?"]))
        self.told(False, is_pattern(WORDS, ["g"] * 100 + ["?"]))
        self.told(False, is_pattern(WORDS, []))

    def test_refusals(self):
        for thing in things_but(Words):
            self.found(errors.NoWords, thing, is_pattern, thing, ["?"])

    def test_what_fits(self):
        for pattern, text in itertools.product(PATTERNS, terms_of(4)):
            kept = plain.parts_of(plain.normal(plain.tree(term(text))))
            told = True
            for spot, part in plain.parts_of(plain.tree_of(WORDS, pattern.split(" "))).items():
                if part != "?" and (spot not in kept or plain.head_of(kept[spot]) != plain.head_of(part)):
                    told = False
            self.told(told, fits(pattern.split(" "), term(text)))
            self.told(told, fits(pattern=tuple(pattern.split(" ")), term=term(text)))

    def test_ordinary_ones(self):
        for pattern, text, told in [("?", "f A B", True), ("f ? g ?", "f A g B", True), ("f ? g ?", "f g c g A", True),
                                    ("f N0 N0", "f B B", True), ("f N0 N1", "f B B", False),
                                    ("f A ?", "f A c", False), ("f N1 ?", "f A c", False),
                                    ("f ? N1", "f B A", True), ("f ? N0", "f B A", False),
                                    ("f ? N0", "f c A", True), ("N0", "A", True), ("N0", "c", False),
                                    ("c", "A", False)]:
            self.told(told, fits(pattern.split(" "), term(text)))
        for thing in NO_PATTERNS:
            self.told(False, fits(thing, term("f A B")))


class CommonParts(Case):
    def test_ordinary_ones(self):
        for texts, told in [(["A"], "N0"), (["A", "Z"], "N0"), (["f A B", "f C D", "f N1 N0"], "f N0 N1"),
                            (["f A B", "f A A"], "f N0 ?"), (["A", "c"], "?"), (["g A", "g c", "c"], "?"),
                            (["f A g B", "f c g B"], "f ? g ?"), (["f A g B", "f g A g B", "f A c"], "f ? ?"),
                            (["f f A B c", "f f B A c", "f f A A c"], "f f N0 ? c"), (["f c A", "f A c"], "f ? ?"),
                            (["f f A A g A", "f c g A"], "f ? g N0"),
                            (["f f A B g C", "f f A B g A"], "f f N0 N1 g ?")]:
            self.assertEqual(common_part(some(texts)), told.split(" "))
            self.assertEqual(common_part(terms=tuple(some(texts)[::-1])), told.split(" "))

    def test_all_small_ones(self):
        for texts in itertools.combinations(SMALL[:12], 3):
            trees = [plain.tree(made) for made in some(texts)]
            self.assertEqual(common_part(some(texts)), plain.signs_of(plainshelves.common(trees)))

    def test_by_chance(self):
        chance = Chance(72)
        for _ in range(200):
            words = chance.one_of([WORDS, WIDE, ONE])
            letters = ["A", "B", "N1"]
            terms = [term(chance.text(words, 16, letters), words) for _ in range(chance.one_of([1, 2, 3, 40]))]
            told = common_part(terms)
            trees = [plain.normal(plain.tree(one)) for one in terms]
            self.assertEqual(told, plain.signs_of(plainshelves.common(trees)))
            self.told(True, is_pattern(words, told))
            self.told(True, all(fits(told, one) for one in terms))
            self.assertEqual(told, common_part(terms[::-1] + terms[:40 - len(terms)]))

    def test_of_great_terms(self):
        wide = great("A", 9999)
        self.assertEqual(common_part([wide, great("B", 9999)]), wide.normal().signs())
        self.assertEqual(common_part([wide, wide.with_part((0, 0), term("c"))])[:4], ["f", "f", "?", "f"])

    def test_refusals(self):
        other = term("A", OTHER)
        for ask in (common_part, PutNode):
            for thing in things_but(list, tuple) + [[], (), [None] * 41, [term("A")] * 41, (term("A"),) * 50]:
                self.found(errors.NoList, thing, ask, thing)
            for thing in things_but(Term):
                self.found(errors.NoTerm, thing, ask, [thing])
                self.found(errors.NoTerm, thing, ask, (term("A"), thing, other))
            self.found(errors.Unlike, other, ask, [term("A"), other, None])
            self.found(errors.Unlike, last := term("A"), ask, [other, last])
            self.assertIsNotNone(ask([term("A")] * 40))


class Nodes(Case):
    def looked_at(self, words, terms):
        told = PutNode(terms)
        trees = plainshelves.in_order(words, [plain.normal(plain.tree(one)) for one in terms])
        nodes = plainshelves.put_nodes(plainshelves.put_tree(words, trees))
        self.assertEqual(len(told), len(nodes))
        self.assertLessEqual(len(told), 2 * len(trees) - 1)
        for path, (kept, pattern, children) in nodes.items():
            node = told.node_at(path)
            self.assertEqual([plain.tree(one) for one in node.terms()], kept)
            self.assertEqual(node.pattern(), plain.signs_of(pattern))
            self.assertEqual(str(node), " ".join(plain.signs_of(pattern)))
            self.assertEqual(len(node.children()), len(children))
            self.assertEqual(node.words(), words)
            self.assertEqual(len(node), len([below for below in nodes if below[:len(path)] == path]))
            self.assertEqual(node.children(), [told.node_at(path + (number,)) for number in range(len(children))])
            self.assertNotEqual(len(children), 1)
            for number, child in enumerate(node.children()):
                self.filled(words, node, number, child)
        for path in ((len(told.children()),), (-1,), (True,), (False,), (None,), ("0",), ((0,),)):
            self.found(errors.NoSpot, path, told.node_at, path)

    def filled(self, words, node, number, child):
        fills = node.fills(number)
        self.assertEqual(len(fills), node.pattern().count("?"))
        for fill in fills:
            self.told(True, is_pattern(words, fill))
        self.assertEqual(filled(words, node.pattern(), fills), child.pattern())
        fills[0].append("x")
        fills.append([])
        self.assertNotEqual(node.fills(number), fills)

    def test_ordinary_ones(self):
        node = node_of(["f A B", "c", "f B A", "f c A", "f A A", "g A", "f N1 g c"])
        self.assertEqual([str(node), len(node)], ["?", 9])
        self.assertEqual([str(child) for child in node.children()], ["f ? ?", "g N0", "c"])
        self.assertEqual([str(one) for one in node.terms()], ["f N0 N0", "f N0 N1", "f N0 g c", "f c N0", "g N0", "c"])
        below = node.node_at((0,))
        self.assertEqual([str(child) for child in below.children()], ["f N0 ?", "f c N0"])
        self.assertEqual([str(one) for one in below.node_at(path=(0,)).children()], ["f N0 N0", "f N0 N1", "f N0 g c"])
        self.assertEqual([node.fills(0), node.fills(number=1)], [[["f", "?", "?"]], [["g", "N0"]]])
        self.assertEqual([below.fills(0), below.fills(1)], [[["N0"], ["?"]], [["c"], ["N0"]]])
        self.assertEqual(below.node_at((0,)).fills(2), [["g", "c"]])
        self.assertEqual([node.node_at(()), node.node_at((0, 0, 1))], [node, node_of(["f A B"])])
        self.assertIsInstance(repr(node), str)

    def test_leaves(self):
        for texts in (["A"], ["f A B", "f B A", "f Z9 Z"], ["c"] * 40):
            node = PutNode(terms=some(texts))
            self.assertEqual([len(node), node.children(), node.terms()], [1, [], [term(texts[0]).normal()]])
            self.assertEqual(node.pattern(), term(texts[0]).normal().signs())

    def test_all_small_ones(self):
        for texts in itertools.combinations(SMALL[:11] + SMALL[-2:], 3):
            self.looked_at(WORDS, some(texts))
        for at in range(0, len(SMALL) - 40, 20):
            self.looked_at(WORDS, some(SMALL[at:at + 40]))

    def test_by_chance(self):
        chance = Chance(73)
        for _ in range(60):
            words = chance.one_of([WORDS, WIDE, ONE])
            letters = ["A", "B", "C"]
            terms = [term(chance.text(words, 16, letters), words) for _ in range(chance.one_of(range(1, 41)))]
            self.looked_at(words, terms)
            self.assertEqual(PutNode(terms), PutNode(terms[::-1]))

    def test_equal_just_with_the_same_words_and_terms(self):
        node = node_of(["A", "f A B", "c"])
        unlike = [node_of(["A", "f A B"]), node_of(["A", "f A A", "c"]), node_of(["A", "f A B", "c"], OTHER), None,
                  node_of(["A", "f A B", "c", "g A"]), str(node), node.pattern(), node.terms(), 4, term("A")]
        self.equal_just(node, [node_of(["c", "f B A", "Z"]), node_of(["A", "f A B", "c", "f D C"], LIKE)], unlike)
        self.equal_just(node_of(["A"]), [node_of(["B"])], [term("A"), term("N0"), ["N0"], "N0"])

    def test_what_is_handed_in_and_told_stays(self):
        rows = some(["A", "f A B", "c"])
        before = marked(rows)
        node = PutNode(rows)
        self.assertEqual(marked(rows), before)
        rows.clear()
        for told in (node.terms(), node.pattern(), node.children(), node.fills(1), node.fills(1)[0]):
            told.clear()
        self.assertEqual([len(node), len(node.terms()), str(node), len(node.children())], [4, 3, "?", 3])
        self.assertEqual(node.fills(1), [["f", "N0", "N1"]])

    def test_refusals(self):
        node = node_of(["A", "f A B", "f A A", "c"])
        for thing in things_but(int) + [True, False, -1, 3, 99]:
            self.found(errors.NoNumber, thing, node.fills, thing)
        for thing in (0, 1, None, True):
            self.found(errors.NoNumber, thing, node.node_at((0,)).fills, thing)
        for thing in any_things() + [(1, 2), (1, 0, 0), (1, True), (True,), ["0"], (3,), (-1,), (0, None)]:
            if repr(thing) not in ("()", "(0,)"):
                self.found(errors.NoSpot, thing, node.node_at, thing)


class Filled(Case):
    def test_ordinary_ones(self):
        for pattern, fills, told in [("?", ["?"], "?"), ("f ? g ?", ["c", "f ? A"], "f c g f ? A"),
                                     ("f A B", [], "f A B"), ("f ? ?", ["f ? ?", "N0"], "f f ? ? N0")]:
            rows = [fill.split(" ") for fill in fills]
            before = marked(rows)
            self.assertEqual(filled(WORDS, pattern.split(" "), rows), told.split(" "))
            others = tuple([tuple(row) for row in rows])
            self.assertEqual(filled(WORDS, tuple(pattern.split(" ")), others), told.split(" "))
            self.assertEqual(filled(words=WORDS, pattern=pattern.split(" "), fills=rows), told.split(" "))
            self.assertEqual(marked(rows), before)

    def test_refusals(self):
        for thing in any_things() + [[["A"]], [["A"], ["c"], ["c"]], [["A"], ["d"]], [["A"], []], [["f", "?"], ["A"]],
                                     [["A"], ["A", "?"]], [["A"], "A"], [["A"], ["g"] * 100 + ["c"]], [["A"], None]]:
            self.found(errors.NoList, thing, filled, WORDS, ["f", "?", "?"], thing)
        for thing in any_things():
            if not isinstance(thing, (list, tuple)) or len(thing) > 0:
                self.found(errors.NoList, thing, filled, WORDS, ["c"], thing)
        self.assertEqual(filled(WORDS, ["c"], []), ["c"])


if __name__ == "__main__":
    unittest.main()
