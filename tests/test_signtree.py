"""The tree by signs: points 61 to 67."""

import itertools
import unittest

from termshelf import errors
from termshelf.signs import Words
from termshelf.signshelf import SignShelf
from termshelf.signtree import SignTree
from termshelf.terms import Term
from tests import plain, plainshelves
from tests.samples import LIKE, ONE, OTHER, WAYS, WIDE, WORDS
from tests.samples import Case, Chance, any_things, great, marked, shelf_of, term, terms_of, things_but

DOC = Words([("f", 2), ("g", 0)])
SMALL = [text for text in terms_of(5, ["N0", "N1"]) if term(text).is_normal()]


def tree_of(texts, words=WORDS):
    return SignTree(words, [term(text, words) for text in texts])


def texts(terms):
    return [str(one) for one in terms]


def nested(words, trees, path=()):
    """Nested lists of a plain tree by signs."""
    told = []
    for node in plainshelves.nodes(words, trees):
        if len(node) == len(path) + 1 and node[:-1] == path:
            told.append((node[-1], nested(words, trees, node)))
    return told


class Looks(Case):
    def looked_at(self, tree, words, trees):
        """All that a tree tells without an ask."""
        trees = plainshelves.in_order(words, trees)
        paths = plainshelves.nodes(words, trees)
        self.assertEqual(tree.nodes(), paths)
        self.assertEqual([plain.tree(kept) for kept in tree.terms()], trees)
        self.assertEqual(len(tree), len(trees))
        self.assertEqual(tree.nested(), nested(words, trees))
        for path in paths:
            beneath = [kept for kept in trees if tuple(plain.signs_of(kept))[:len(path)] == path]
            self.assertEqual([plain.tree(kept) for kept in tree.beneath(path)], beneath)
            self.assertEqual(tree.count_beneath(path), len(beneath))
            self.assertEqual(tree.jumps(path), plainshelves.jumps(words, trees, path))
            self.told(True, tree.has_node(path))
            self.told(False, tree.has_node(path + ("x",)))
            self.told(False, tree.has_node(list(path)))

    def walked(self, tree, words, trees, way, ask):
        gone, ends = plainshelves.walk(words, plainshelves.in_order(words, trees), way, plain.tree(ask))
        self.assertEqual(tree.walk(way, ask), gone)
        self.assertEqual([tuple(kept.signs()) for kept in tree.ends(way, ask)], ends)
        true = [tuple(plain.signs_of(kept)) for kept in trees if plainshelves.tells(way, plain.tree(ask), kept)]
        if way == "meets":
            self.assertLessEqual(set(true), set(ends))
        else:
            self.assertEqual(set(true), set(ends))
        self.assertLessEqual(len(gone), 1 + sum(len(plain.signs_of(kept)) for kept in trees))


class Told(Looks):
    def test_the_documents_one(self):
        tree = tree_of(["A", "f A g", "f g A"], DOC)
        self.assertEqual(str(tree), "N0 f(N0(g) g(N0))")
        self.assertEqual(tree.nested(), [("N0", []), ("f", [("N0", [("g", [])]), ("g", [("N0", [])])])])
        paths = [(), ("N0",), ("f",), ("f", "N0"), ("f", "N0", "g"), ("f", "g"), ("f", "g", "N0")]
        self.assertEqual(tree.nodes(), paths)
        self.assertEqual(tree.jumps(()), [("N0",), ("f", "N0", "g"), ("f", "g", "N0")])
        self.assertEqual([tree.jumps(("f",)), tree.jumps(("f", "g"))], [[("f", "N0"), ("f", "g")], [("f", "g", "N0")]])
        self.assertEqual([tree.jumps(("N0",)), tree.jumps(("f", "g", "N0"))], [[], []])
        self.assertEqual(texts(tree.beneath(path=("f",))), ["f N0 g", "f g N0"])
        self.assertEqual([tree.count_beneath(path=("f",)), tree.count_beneath(()), len(tree)], [2, 3, 3])
        self.assertIsInstance(repr(tree), str)

    def test_without_terms_and_with_one(self):
        for tree in (SignTree(WORDS), SignTree(words=WORDS, terms=[]), SignTree(WORDS, ())):
            self.assertEqual([tree.nodes(), tree.terms(), len(tree), str(tree), tree.nested()], [[()], [], 0, "", []])
            self.assertEqual([tree.beneath(()), tree.count_beneath(()), tree.jumps(())], [[], 0, []])
            for way in WAYS:
                self.assertEqual([tree.walk(way, term("A")), tree.ends(way, term("A"))], [[()], []])
            self.told(True, tree.put(term("f A A")))
            self.assertEqual([str(tree), texts(tree.terms())], ["f(N0(N0))", ["f N0 N0"]])

    def test_children_stand_in_order(self):
        tree = tree_of(["f c c", "f A c", "f f A B c", "f g A B", "c", "g A", "A", "f A B", "f A A"])
        self.assertEqual(str(tree), "N0 f(N0(N0 N1 c) f(N0(N1(c))) g(N0(N1)) c(c)) g(N0) c")
        tree = tree_of(["t A B C D", "t A B C c", "t A B C A", "d", "c"], WIDE)
        self.assertEqual(str(tree), "t(N0(N1(N2(N0 N3 c)))) c d")
        many = term("f " * 7 + " ".join("ABCDEFGH"))
        self.assertEqual(str(SignTree(WORDS, [many])).count("("), 14)

    def test_all_small_trees(self):
        for many in (1, 2, 3):
            for rows in itertools.combinations(SMALL[:9] + SMALL[-3:], many):
                self.looked_at(tree_of(rows), WORDS, [plain.tree(term(text)) for text in rows])

    def test_trees_by_chance(self):
        chance = Chance(61)
        for _ in range(40):
            words = chance.one_of([WORDS, WIDE, ONE])
            rows = [chance.text(words, 16, ["A", "B", "C", "N0", "Z99"]) for _ in range(chance.one_of(range(60)))]
            trees = [plain.normal(plain.tree(term(text, words))) for text in rows]
            self.looked_at(tree_of(rows, words), words, trees)

    def test_no_path_of_a_node(self):
        tree = tree_of(["A", "f A g B"])
        for thing in any_things() + [("f", "A"), ["f"], ("f", "N0", "g", "N1", "N1"), ("f", ["N0"]), ("g",), ("N1",)]:
            if thing != ():
                self.told(False, tree.has_node(thing))
                for ask in (tree.beneath, tree.count_beneath, tree.jumps):
                    self.found(errors.NotThere, thing, ask, thing)
        self.told(True, tree.has_node(thing=("f", "N0", "g", "N1")))


class Changed(Looks):
    def test_puts_and_takes(self):
        tree = SignTree(WORDS)
        self.told(True, tree.put(term("f A B")))
        self.told(False, tree.put(term("f B A", LIKE)))
        self.told(True, tree.put(term=term("f A A")))
        self.told(False, tree.take(term("f A c")))
        self.told(False, tree.take(term("A")))
        self.told(True, tree.take(term=term("f Z9 Z")))
        self.told(False, tree.take(term("f Z9 Z")))
        self.assertEqual([str(tree), tree.nodes()[-1]], ["f(N0(N0))", ("f", "N0", "N0")])
        self.told(True, tree.take(term("f A A")))
        self.assertEqual([tree, tree.nodes(), str(tree)], [SignTree(WORDS), [()], ""])

    def test_histories(self):
        for seed in range(10):
            chance = Chance(seed)
            tree, kept = SignTree(WORDS), []
            for _ in range(80):
                made = chance.one_of(kept + [term(chance.text(WORDS, 8, ["A", "B"])) for _ in range(5)])
                put = chance.one_of([True, False, True])
                there = made.normal() in kept
                self.told(there != put, (tree.put if put else tree.take)(made))
                kept = [one for one in kept if one != made.normal()] + ([made.normal()] if put else [])
                self.assertEqual(tree, SignTree(WORDS, kept))
                self.assertEqual(tree.nodes(), SignTree(WORDS, kept[::-1]).nodes())
            self.looked_at(tree, WORDS, [plain.tree(one) for one in kept])
            for one in kept:
                tree.take(one)
            self.assertEqual([tree.nodes(), len(tree)], [[()], 0])

    def test_edges(self):
        rows = [text for text in terms_of(7, ["N0", "N1"]) if term(text).is_normal()]
        tree = tree_of(rows[:100])
        self.assertEqual(len(tree), 100)
        self.refused(errors.TooMany, "many", 101, tree.put, term(rows[100]))
        self.told(False, tree.put(term(rows[99])))
        self.told(False, tree.take(term(rows[100])))
        self.told(True, tree.take(term(rows[0])))
        self.told(True, tree.put(term(rows[100])))
        self.found(errors.NoList, more := [term(text) for text in rows[:101]], SignTree, WORDS, more)
        self.assertEqual(len(SignTree(WORDS, [term("A")] * 100)), 1)
        self.told(True, tree_of([]).put(self.sixteen()))

    def test_refusals(self):
        tree = tree_of(["A", "f A c"])
        before = marked(tree)
        other, wide = term("A", OTHER), great("A", 17)
        for ask in (tree.put, tree.take):
            for thing in things_but(Term):
                self.found(errors.NoTerm, thing, ask, thing)
            self.found(errors.Unlike, other, ask, other)
            self.refused(errors.TooGreat, "many", 17, ask, wide)
            self.refused(errors.TooGreat, "many", 9999, ask, great("A", 9999))
        self.assertEqual(marked(tree), before)
        for thing in things_but(Words):
            self.found(errors.NoWords, thing, SignTree, thing, None)
        for thing in things_but(list, tuple) + [[None] * 101, ("x",) * 101]:
            self.found(errors.NoList, thing, SignTree, WORDS, thing)
        for thing in things_but(Term):
            self.found(errors.NoTerm, thing, SignTree, WORDS, [term("A"), thing, other])
        self.found(errors.Unlike, other, SignTree, WORDS, [term("A"), other, None])
        self.found(errors.Unlike, other, SignTree, WORDS, [other])
        self.refused(errors.TooGreat, "many", 17, SignTree, WORDS, (term("A"), wide, other))

    def test_what_is_handed_in_and_told_stays(self):
        rows = [term("A"), term("f A c")]
        tree = SignTree(WORDS, rows)
        rows.pop()
        before = str(tree)
        tree.nested()[1][1].clear()
        for told in (tree.nodes(), tree.terms(), tree.beneath(("f",)), tree.jumps(()), tree.nested(),
                     tree.walk("meets", term("A")), tree.ends("meets", term("A"))):
            told.clear()
        self.assertEqual([str(tree), len(tree), tree.nodes()[0]], [before, 2, ()])
        self.assertEqual(tree.nested(), [("N0", []), ("f", [("N0", [("c", [])])])])


class Equal(Case):
    def test_just_with_the_same_words_and_terms(self):
        tree = tree_of(["A", "f A B", "c"])
        like = [tree_of(["c", "f B A", "Z"]), tree_of(["A", "f A B", "c", "B"], LIKE), tree]
        gone = tree_of(["c", "f B A", "Z", "g A", "f A A"])
        gone.take(term("g A"))
        gone.take(term("f A A"))
        unlike = [tree_of(["A", "f A B"]), tree_of(["A", "f A A", "c"]), tree_of(["A", "f A B", "c"], OTHER),
                  SignTree(WORDS), tree_of(["A", "f A B", "c", "g A"]), None, str(tree), tree.nested(), tree.nodes(), 3]
        self.equal_just(tree, like + [gone], unlike)


class Walked(Looks):
    def test_ordinary_ones(self):
        tree = tree_of(["A", "f A A", "f A B", "f c A", "f A g A", "f g A g A", "f g A A", "g A", "c"])
        for way, ask, told, ends in [
                ("instances", "f A A", ", f, f N0, f N0 N0, f g N0, f g N0 g, f g N0 g N0, f c",
                 "f N0 N0, f g N0 g N0"),
                ("instances", "f g A g B", ", f, f g, f g N0, f g N0 g, f g N0 g N0", "f g N0 g N0"),
                ("instances", "c", ", c", "c"), ("variants", "f g Z g Z", ", f, f g, f g N0, f g N0 g, f g N0 g N0",
                                                 "f g N0 g N0"),
                ("variants", "f A c", ", f, f N0", ""), ("above", "A", ", N0", "N0"),
                ("above", "f A g A", ", N0, f, f N0, f N0 N1, f N0 g, f N0 g N0", "N0, f N0 N1, f N0 g N0"),
                ("above", "f c c", ", N0, f, f N0, f N0 N0, f N0 N1, f c, f c N0", "N0, f N0 N0, f N0 N1, f c N0"),
                ("meets", "g A", ", N0, g, g N0", "N0, g N0"),
                ("meets", "f A c", ", N0, f, f N0, f N0 N0, f N0 N1, f g N0, f g N0 N0, f c, f c N0",
                 "N0, f N0 N0, f N0 N1, f g N0 N0, f c N0")]:
            self.assertEqual(tree.walk(way, term(ask)), [tuple(text.split()) for text in told.split(",")])
            self.assertEqual(texts(tree.ends(way=way, term=term(ask))), [text for text in ends.split(", ") if text])

    def test_all_small_ones(self):
        rows = SMALL[:60]
        tree, trees = tree_of(rows), [plain.tree(term(text)) for text in rows]
        for way, ask in itertools.product(WAYS, terms_of(4)):
            self.walked(tree, WORDS, trees, way, term(ask))

    def test_by_chance(self):
        chance = Chance(65)
        for _ in range(60):
            words = chance.one_of([WORDS, WIDE, ONE])
            rows = [chance.text(words, 16, ["A", "B", "C"]) for _ in range(chance.one_of(range(1, 40)))]
            trees = plainshelves.in_order(words, [plain.normal(plain.tree(term(text, words))) for text in rows])
            tree = tree_of(rows, words)
            for way, text in itertools.product(WAYS, rows[:2] + [chance.text(words, 16, ["A", "B"]) for _ in range(3)]):
                self.walked(tree, words, trees, way, term(text, words))

    def test_letters_that_come_again(self):
        tree = tree_of(["f g g A g g A", "f g g A g g B", "f g g A g A", "f f A B f A B", "f f A B f B A",
                        "f f A B f A A"])
        trees = [plain.tree(kept) for kept in tree.terms()]
        for way, ask in itertools.product(WAYS, ["f A A", "f g A g A", "f f A B f A B", "f f A A f A A", "f A B", "A"]):
            self.walked(tree, WORDS, trees, way, term(ask))
        # All ahead of where it can't go on are gone to, the last sign's child that isn't there is none.
        self.assertIn(tuple("f g g N0 g g".split()), tree.walk("instances", term("f A A")))
        self.assertNotIn(tuple("f g g N0 g g N1".split()), tree.walk("instances", term("f A A")))

    def test_refusals(self):
        tree = tree_of(["A"])
        other = term("A", OTHER)
        for ask in (tree.walk, tree.ends):
            for thing in any_things():
                self.found(errors.NoWay, thing, ask, thing, None)
            for way in WAYS:
                for thing in things_but(Term):
                    self.found(errors.NoTerm, thing, ask, way, thing)
                self.found(errors.Unlike, other, ask, way, other)
                self.refused(errors.TooGreat, "many", 17, ask, way, great("A", 17))
                ask(way, self.sixteen())

    def test_full_trees_are_walked(self):
        rows = [text for text in terms_of(7, ["N0", "N1"]) if term(text).is_normal()][:100]
        self.assertEqual(texts(tree_of(rows).ends("instances", term("A"))), texts(tree_of(rows).terms()))


class Shelves(Looks):
    def test_a_shelf_keeps_such_a_tree(self):
        for seed in range(8):
            chance = Chance(seed)
            shelf = SignShelf(WORDS)
            for _ in range(30):
                made = chance.one_of(shelf.terms() + [term(chance.text(WORDS, 16, ["A", "B", "C"]))])
                note = chance.one_of(["a", "b"])
                deed = shelf.take if shelf.has(made) and note in shelf.notes(made) else shelf.put
                deed(made, note)
                self.assertEqual(shelf.tree(), SignTree(WORDS, shelf.terms()))
                self.assertEqual(shelf.tree().nodes(), SignTree(WORDS, shelf.terms()).nodes())
            for way, text in itertools.product(WAYS, ["A", "f A A", "f A B", chance.text(WORDS, 16, ["A", "B"])]):
                gone, ends = shelf.tree().walk(way, term(text)), shelf.tree().ends(way, term(text))
                self.assertEqual([shelf.walk(way, term(text)), shelf.steps(way, term(text))], [gone, len(gone)])
                self.assertEqual(sorted(texts(shelf.candidates(way, term(text)))), sorted(texts(ends)))
                self.assertLessEqual(len(gone), 1 + sum(len(kept) for kept in shelf.terms()))

    def test_the_tree_is_the_askers_own(self):
        shelf = shelf_of(SignShelf, ["f A B : one", "c : one"])
        tree = shelf.tree()
        tree.take(term("c"))
        tree.put(term("A"))
        self.assertEqual(texts(shelf.tree().terms()), ["f N0 N1", "c"])
        self.assertEqual([str(answer) for answer in shelf.ask("above", term("c"))], ["c : one"])
        shelf.put(term("g A"), "one")
        self.assertEqual(texts(tree.terms()), ["N0", "f N0 N1"])

    def test_it_stays_right_where_deeds_are_taken_back(self):
        shelf = shelf_of(SignShelf, ["f A B : one", "c : one"])
        rows = [("put", term("g A"), "a"), ("take", term("c"), "one"), ("put", term("A"), "b"),
                ("take", term("A"), "x")]
        self.found(errors.NotThere, "x", shelf.all_deeds, rows)
        self.assertEqual(shelf.tree(), tree_of(["c", "f A B"]))
        self.assertEqual(shelf.walk("instances", term("A")), [(), ("f", "N0", "N1"), ("c",)])


if __name__ == "__main__":
    unittest.main()
