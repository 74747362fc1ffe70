"""Rewriting by rules: points 92 and 96 to 99."""

import unittest

from termshelf import errors
from termshelf.rewriting import MOST_STEPS, first_step, normal_of, plain_rewritten, rewritten, shows_rows, steps_of
from termshelf.rules import Rules
from termshelf.terms import Term
from tests import plain, plainrules
from tests.samples import BYS, LIKE, OTHER, WIDE, WORDS
from tests.samples import Case, Chance, any_things, drawn_rules, great, marked, rule, rules_of, term, things_but
from tests.touched import touched

# Sums of numbers g g .. c, with turned sums beside them.
SUMS = ["f c A -> A", "f g A B -> g f A B", "f A B -> f B A"]
WIDER = great("A", 17)


def text_of(step):
    return step[:2] + (str(step[2]),)


def texts(steps):
    return [text_of(step) for step in steps]


class AtASpot(Case):
    def test_ordinary_ones(self):
        made = rule("f g A B -> g f A B")
        for text, spot, told in [("f g c c", (), "g f c c"), ("f g A f B A", (), "g f A f B A"), ("f c c", (), None),
                                 ("g f g B c", (0,), "g g f B c"), ("g f g B c", (), None), ("A", (), None),
                                 ("f g f g A B c", (), "g f f g A B c"), ("f g f g A B c", (0, 0), "f g g f A B c")]:
            behind = made.rewritten_at(term(text), spot)
            self.assertEqual(None if behind is None else str(behind), told)
            self.assertEqual(made.rewritten_at(term=term(text), spot=spot), behind)
        double = rule("f A A -> f g A f A A")
        self.assertEqual(str(double.rewritten_at(term("f g A g A"), ())), "f g g A f g A g A")
        self.assertIs(double.rewritten_at(term("f A B"), ()), None)
        self.assertEqual(str(rule("c -> g c").rewritten_at(term("f A c"), (1,))), "f A g c")

    def test_letters_have_nothing_to_do_with_those_of_the_rule(self):
        made = rule("f A B -> f B A")
        self.assertEqual(str(made.rewritten_at(term("f B A"), ())), "f A B")
        self.assertEqual(str(made.rewritten_at(term("f f A B B"), ())), "f B f A B")
        self.assertEqual(str(rule("f A A -> A").rewritten_at(term("f B B"), ())), "B")

    def test_by_chance(self):
        chance = Chance(92)
        for _ in range(250):
            words = chance.one_of([WORDS, WIDE])
            made = rule(drawn_rules(chance, words, 1)[0], words)
            tree = term(chance.text(words, 12, ["A", "B"]), words)
            for spot in tree.spots():
                told = made.rewritten_at(tree, spot)
                sides = (plain.tree(made.left()), plain.tree(made.right()))
                self.assertEqual(None if told is None else plain.tree(told),
                                 plainrules.made_of(sides, plain.tree(tree), spot))

    def test_great_terms(self):
        made = rule("f A B -> f f B B A")
        tree = great("A", 3001)
        told = made.rewritten_at(tree, ())
        left, right = tree.parts()
        self.assertEqual(told.signs(), ["f", "f"] + right.signs() * 2 + left.signs())
        spots = tree.spots()
        self.assertEqual(len(made.rewritten_at(tree, spots[-5])), len(tree) + 1 + len(tree.part_at(spots[-5] + (1,))))
        deep = term("g " * 200 + "f c A")
        self.assertEqual(made.rewritten_at(deep, (0,) * 200).signs(), ["g"] * 200 + ["f", "f", "A", "A", "c"])

    def test_refusals(self):
        made, other = rule("g A -> A"), term("g A", OTHER)
        for thing in things_but(Term):
            self.found(errors.NoTerm, thing, made.rewritten_at, thing, None)
        self.found(errors.Unlike, other, made.rewritten_at, other, None)
        for thing in things_but(tuple) + [(0, 0), (1,), (True,), (False,), (-1,), ("0",), (None,), ((),), [0], [],
                                          (10 ** 30 - 1,), (0, None)]:
            self.found(errors.NoSpot, thing, made.rewritten_at, term("g A"), thing)


class Steps(Case):
    def test_ordinary_ones(self):
        tree = term("f f c g c g f c A")
        told = [((), 2, "f g f c A f c g c"), ((0,), 0, "f g c g f c A"), ((0,), 2, "f f g c c g f c A"),
                ((1, 0), 0, "f f c g c g A"), ((1, 0), 2, "f f c g c g f A c")]
        for by in BYS:
            rules = rules_of(by, SUMS)
            self.assertEqual(texts(steps_of(rules, tree)), told)
            self.assertEqual(texts(steps_of(rules=rules, term=tree, only=None)), told)
            self.assertEqual(text_of(first_step(rules, tree)), told[0])
            self.assertEqual(text_of(first_step(rules=rules, term=tree, only=(1, 0))), told[1])
            for only in ([0, 1], (1, 0), [1, 1, 0, 1, 0]):
                self.assertEqual(texts(steps_of(rules, tree, only=only)), [told[1], told[3]])
            for only in ([], (), [1]):
                self.assertEqual(steps_of(rules, tree, only=only), [])
                self.assertIs(first_step(rules, tree, only=only), None)
            self.assertEqual(steps_of(rules, term("g g A")), [])
            self.assertIs(first_step(rules, term("A")), None)
            self.assertEqual(steps_of(Rules(WORDS, by=by), tree), [])

    def test_by_chance_all_kinds_tell_the_same(self):
        chance = Chance(96)
        for number in range(80):
            words = chance.one_of([WORDS, WIDE])
            drawn = drawn_rules(chance, words, 1 + number % 8)
            kinds = [rules_of(by, drawn, words) for by in BYS]
            rows = kinds[0].rules()
            rules = plainrules.trees_of(rows)
            for _ in range(4):
                tree = term(chance.text(words, 16, ["A", "B"]), words)
                told = [(spot, name, " ".join(plain.signs_of(made)))
                        for spot, name, made in plainrules.steps(rules, plain.tree(tree))]
                only = [name for name, _ in rows if chance.one_of([True, False])]
                for kind in kinds:
                    self.assertEqual(texts(steps_of(kind, tree)), told)
                    first = first_step(kind, tree)
                    self.assertEqual([] if first is None else [text_of(first)], told[:1])
                    some = [step for step in told if step[1] in only]
                    self.assertEqual(texts(steps_of(kind, tree, only=only)), some)
                    first = first_step(kind, tree, only=only)
                    self.assertEqual([] if first is None else [text_of(first)], some[:1])

    def test_numbers_stand_in_their_order_whatever_was_dropped(self):
        for by in BYS:
            rules = rules_of(by, ["f A B -> A", None, "f A A -> A", None, "f B A -> A", "f A B -> B"])
            told = [((), 0, "c"), ((), 2, "c"), ((), 4, "c"), ((), 5, "c")]
            self.assertEqual(texts(steps_of(rules, term("f c c"))), told)
            rules.drop(0)
            rules.put(rule("f A B -> A"))
            self.assertEqual(texts(steps_of(rules, term("f c c"))), told[1:] + [((), 6, "c")])

    def test_sixteen_signs(self):
        for by in BYS:
            rules = rules_of(by, ["f A B -> f f A B f A B"])
            told = steps_of(rules, self.sixteen())
            self.assertEqual([step[0] for step in told], [(), (0,), (0, 0), (0,) * 3, (0,) * 4, (0,) * 5, (0,) * 6])
            self.assertEqual(len(told[0][2]), 33)

    def test_lists_are_new_ones(self):
        rules = rules_of("puts", SUMS)
        only = [0]
        steps_of(rules, term("f c c"), only=only).clear()
        self.assertEqual(only, [0])
        self.assertEqual(len(steps_of(rules, term("f c c"), only=only)), 1)

    def refused_ahead(self, ask, **named):
        """What rules and a term refuse, behind one another, whatever else is handed in."""
        other = term("A", OTHER)
        for by in BYS:
            rules = rules_of(by, SUMS)
            before = marked(rules)
            for thing in things_but(Rules) + [rules.rules()]:
                self.found(errors.NoRule, thing, ask, thing, None, **named)
            for thing in things_but(Term):
                self.found(errors.NoTerm, thing, ask, rules, thing, **named)
            self.found(errors.Unlike, other, ask, rules, other, **named)
            self.found(errors.Unlike, wide := term(" ".join(WIDER.signs()), OTHER), ask, rules, wide, **named)
            self.refused(errors.TooGreat, "many", 17, ask, rules, WIDER, **named)
            self.refused(errors.TooGreat, "many", 9999, ask, rules, great("A", 9999), **named)
            self.assertEqual(marked(rules), before)

    def refused_only(self, ask, **named):
        for by in BYS:
            rules = rules_of(by, SUMS + [None, "c -> g c"])
            rules.drop(1)
            for thing in things_but(list, tuple, type(None)) + [[0] * 41, (None,) * 41]:
                self.found(errors.NoList, thing, ask, rules, term("c"), only=thing, **named)
            for thing in things_but(int) + [True, False, 1, 3, 5, -1, 10 ** 30 - 1]:
                for only in ([thing, None], (0, 2, thing, 1)):
                    self.found(errors.NotThere, thing, ask, rules, term("c"), only=only, **named)
            ask(rules, term("c"), only=[4] * 40, **named)

    def test_refusals(self):
        for ask in (steps_of, first_step):
            self.refused_ahead(ask)
            self.refused_ahead(ask, only=0)
            self.refused_only(ask)


class Rewritten(Case):
    def test_ordinary_ones(self):
        tree = term("f g g c g c")
        rows = [((), 1, "g f g c g c"), ((0,), 1, "g g f c g c"), ((0, 0), 0, "g g g c")]
        for by in BYS:
            rules = rules_of(by, SUMS[:2])
            ending, told = rewritten(rules, tree)
            self.assertEqual((ending, texts(told)), ("done", rows))
            self.assertEqual(rewritten(rules=rules, term=tree, most=3, only=None), (ending, told))
            self.assertEqual(rewritten(rules, tree, only=[1, 0], most=200), (ending, told))
            self.assertEqual(rewritten(rules, tree, most=2), ("most", told[:2]))
            self.assertEqual(rewritten(rules, tree, most=0), ("most", []))
            self.assertEqual(rewritten(rules, tree, only=[1]), ("done", told[:2]))
            self.assertEqual(rewritten(rules, tree, only=[]), ("done", []))
            self.assertEqual(rewritten(rules, tree, only=(0,), most=0), ("done", []))
            self.assertEqual(rewritten(rules, term("A"), most=0), ("done", []))
            self.assertEqual(str(normal_of(rules, tree)), "g g g c")
            self.assertEqual(str(normal_of(rules=rules, term=tree, most=3)), "g g g c")
            self.assertEqual(normal_of(rules, term("A"), most=0), term("A"))

    def test_no_end(self):
        for by in BYS:
            rules = rules_of(by, SUMS)
            tree = term("f A B")
            for most in (0, 1, 49, 50, 200):
                ending, rows = rewritten(rules, tree, most=most)
                self.assertEqual((ending, len(rows)), ("most", most))
                self.refused(errors.Endless, "many", most, normal_of, rules, tree, most=most)
            self.assertEqual(len(rewritten(rules, tree)[1]), MOST_STEPS)
            self.refused(errors.Endless, "many", 50, normal_of, rules, tree)

    def test_terms_of_more_than_sixteen_signs(self):
        for by in BYS:
            rules = rules_of(by, ["g A -> f A A", "c -> g c"])
            tree = term("g g g c")
            rows = [((), 0, "f g g c g g c"), ((0,), 0, "f f g c g c g g c"), ((0, 0), 0, "f f f c c g c g g c"),
                    ((0, 0, 0), 1, "f f f g c c g c g g c"), ((0, 0, 0), 0, "f f f f c c c g c g g c")]
            ending, told = rewritten(rules, tree)
            self.assertEqual(texts(told)[:5], rows)
            self.assertEqual((ending, len(told[-1][2])), ("wide", 16))
            many = len(first_step(rules, told[-1][2])[2])
            self.assertEqual(many, 17)
            self.refused(errors.TooGreat, "many", 17, normal_of, rules, tree)
            # The most is told ahead of what is too great, where both are due.
            self.assertEqual(rewritten(rules, tree, most=len(told)), ("most", told))
            self.refused(errors.Endless, "many", len(told), normal_of, rules, tree, most=len(told))
            double = rules_of(by, ["f A B -> f f A B f A B"])
            self.assertEqual(rewritten(double, self.sixteen()), ("wide", []))
            self.refused(errors.TooGreat, "many", 33, normal_of, double, self.sixteen())
            self.assertEqual(rewritten(double, self.sixteen(), most=0), ("most", []))

    def test_by_chance_with_a_shelf_and_without(self):
        chance = Chance(97)
        endings = set()
        for number in range(150):
            words = chance.one_of([WORDS, WIDE])
            drawn = drawn_rules(chance, words, 1 + number % 6)
            kinds = [rules_of(by, drawn, words) for by in BYS]
            rows = kinds[0].rules()
            rules = plainrules.trees_of(rows)
            tree, most = term(chance.text(words, 16, ["A", "B"]), words), chance.one_of([0, 1, 3, 10, 50])
            ending, told, left = plainrules.rewritten(rules, plain.tree(tree), most)
            told = [(spot, name, " ".join(plain.signs_of(made))) for spot, name, made in told]
            endings.add(ending)
            for kind in kinds:
                self.assertEqual(rewritten(kind, tree, most=most)[0], ending)
                self.assertEqual(texts(rewritten(kind, tree, most=most)[1]), told)
                self.assertEqual(rewritten(kind, tree, most=most), plain_rewritten(kind.rules(), tree, most=most))
                if ending == "done":
                    last = ([str(tree)] + [row[2] for row in told])[-1]
                    self.assertEqual(str(normal_of(kind, tree, most=most)), last)
                elif ending == "most":
                    self.refused(errors.Endless, "many", most, normal_of, kind, tree, most=most)
                else:
                    many = len(plain.signs_of(left[2]))
                    self.refused(errors.TooGreat, "many", many, normal_of, kind, tree, most=most)
                self.told(True, shows_rows(kind, tree, rewritten(kind, tree, most=most)[1]))
        self.assertEqual(endings, {"done", "most", "wide"})

    def test_rules_that_change_later(self):
        for by in BYS:
            rules = rules_of(by, SUMS[:2])
            told = rewritten(rules, term("f g c c"))
            before = (told[0], texts(told[1]))
            rules.drop(0)
            self.assertEqual((told[0], texts(told[1])), before)
            self.assertEqual(texts(rewritten(rules, term("f g c c"))[1]), [((), 1, "g f c c")])
            told[1].clear()
            self.assertEqual(texts(rewritten(rules, term("f g c c"))[1]), [((), 1, "g f c c")])
            rules.put(rule(SUMS[0]))
            self.assertEqual(texts(rewritten(rules, term("f g c c"))[1]), [((), 1, "g f c c"), ((0,), 2, "g c")])

    def test_forty_rules_and_two_hundred_steps(self):
        for by in BYS:
            texts = [f"{'g ' * many}f {end} -> c" for many in range(1, 14) for end in ("c c", "A A", "c A")]
            rules = rules_of(by, texts + ["f c A -> f c A"])
            tree = term("f c " * 7 + "c")
            self.assertEqual(len(tree), 15)
            ending, told = rewritten(rules, tree, most=200)
            self.assertEqual((ending, len(told)), ("most", 200))
            self.assertEqual(plain_rewritten(rules.rules(), tree, most=200), (ending, told))
            self.told(True, shows_rows(rules, tree, told))

    def test_refusals(self):
        steps = Steps()
        steps.refused_ahead(rewritten)
        steps.refused_ahead(rewritten, most=None, only=0)
        steps.refused_ahead(normal_of)
        steps.refused_ahead(normal_of, most=None)
        steps.refused_only(rewritten)
        for by in BYS:
            rules = rules_of(by, SUMS)
            for thing in things_but(int) + [True, False, -1, 201, 10 ** 30 - 1]:
                self.found(errors.NoNumber, thing, rewritten, rules, term("A"), most=thing, only=0)
                self.found(errors.NoNumber, thing, normal_of, rules, term("f A B"), most=thing)


class Rows(Case):
    def test_first_steps_alone(self):
        tree = term("f g g c g c")
        for by in BYS:
            rules = rules_of(by, SUMS[:2])
            _, rows = rewritten(rules, tree)
            for many in range(4):
                self.told(True, shows_rows(rules, tree, rows[:many]))
                self.told(True, shows_rows(rules=rules, term=tree, thing=tuple(rows[:many])))
            self.told(False, shows_rows(rules, tree, rows[1:]))
            self.told(False, shows_rows(rules, tree, rows + [rows[-1]]))
            self.told(False, shows_rows(rules, term("f g c g g c"), rows))
            self.told(True, shows_rows(rules, term("A"), []))
            # Another step that can be done isn't the first one.
            both = steps_of(rules, term("f f c A f c A"))
            self.assertEqual(len(both), 2)
            self.assertEqual([shows_rows(rules, term("f f c A f c A"), [step]) for step in both], [True, False])

    def test_with_one_thing_otherwise(self):
        rules = rules_of("signs", [SUMS[2], SUMS[0]])
        tree = term("f c g A")
        _, rows = rewritten(rules, tree, most=3)
        good = [repr(rows[:many]) for many in range(4)] + [repr(tuple(rows[:many])) for many in range(4)]
        for thing in touched(rows) + any_things():
            before = marked(thing)
            self.told(repr(thing) in good, shows_rows(rules, tree, thing))
            self.assertEqual(marked(thing), before)
        spot, number, behind = rows[0]
        for thing in [(list(spot), number, behind), (spot, False, behind), (spot, number, str(behind)),
                      (spot, number, term(str(behind), OTHER)), (spot, 1, behind), (spot, number, behind, None),
                      [spot, number, behind], (spot, number), (spot, number, term("f g B c"))]:
            self.told(False, shows_rows(rules, tree, [thing]))
        self.told(True, shows_rows(rules, tree, [(spot, number, term(str(behind), LIKE))]))

    def test_spots_and_numbers_are_no_truths(self):
        rules = rules_of("plain", ["g c -> c", "c -> g g c"])
        self.told(True, shows_rows(rules, term("f A c"), [((1,), 1, term("f A g g c"))]))
        self.told(False, shows_rows(rules, term("f A c"), [((True,), 1, term("f A g g c"))]))
        self.told(False, shows_rows(rules, term("f A c"), [((1,), True, term("f A g g c"))]))
        self.told(True, shows_rows(rules, term("f g c A"), [((0,), 0, term("f c A"))]))
        self.told(False, shows_rows(rules, term("f g c A"), [((False,), 0, term("f c A"))]))
        self.told(False, shows_rows(rules, term("f g c A"), [((0,), False, term("f c A"))]))

    def test_no_row_stands_behind_more_than_sixteen_signs(self):
        for by in BYS:
            rules = rules_of(by, ["f A B -> f f A B f A B", "g A -> f c A"])
            step = first_step(rules, self.sixteen())
            self.told(True, shows_rows(rules, self.sixteen(), [step]))
            plainly = plainrules.steps(plainrules.trees_of(rules.rules()), plain.tree(step[2]))[0]
            behind = (plainly[0], plainly[1], term(" ".join(plain.signs_of(plainly[2]))))
            self.told(False, shows_rows(rules, self.sixteen(), [step, behind]))
            tree = term("g f f f A A f A A f A c")
            self.assertEqual(len(tree), 12)
            first = first_step(rules, tree)
            second = first_step(rules, first[2])
            self.assertEqual([len(first[2]), len(second[2])], [13, 27])
            self.told(True, shows_rows(rules, tree, [first, second]))
            self.told(False, shows_rows(rules, tree, [first, second, second]))

    def test_two_hundred_rows(self):
        rules = rules_of("puts", ["f A B -> f B A"])
        _, rows = rewritten(rules, term("f A B"), most=200)
        self.told(True, shows_rows(rules, term("f A B"), rows))
        self.told(True, shows_rows(rules, term("f A B"), rows + rows))
        self.told(False, shows_rows(rules, term("f A B"), rows + rows[1:]))

    def test_refusals(self):
        steps = Steps()
        steps.refused_ahead(lambda rules, term: shows_rows(rules, term, None))
        steps.refused_ahead(lambda rules, term: shows_rows(rules, term, []))


class Plainly(Case):
    def test_ordinary_ones(self):
        rows = [(number, rule(text)) for number, text in zip((0, 3, 10 ** 30 - 1), SUMS)]
        ending, told = plain_rewritten(rows=rows[:2], term=term("f g c c"))
        self.assertEqual((ending, texts(told)), ("done", [((), 3, "g f c c"), ((0,), 0, "g c")]))
        self.assertEqual(plain_rewritten(tuple(rows), term("f A B"), most=1)[0], "most")
        self.assertEqual(plain_rewritten(rows, term("f A B"))[1][7], ((), 10 ** 30 - 1, term("f A B")))
        self.assertEqual(len(plain_rewritten(rows, term("f A B"))[1]), 50)
        for none in ([], ()):
            self.assertEqual(plain_rewritten(none, term("f A B", OTHER), most=0), ("done", []))
        self.assertEqual(len(rows), 3)

    def test_more_rules_than_could_be_kept(self):
        rows = [(number, rule("f A B -> A")) for number in range(40)]
        self.assertEqual(texts(plain_rewritten(rows, term("f c A"))[1]), [((), 0, "c")])

    def test_refusals(self):
        good, other, wide = rule("g A -> A"), rule("g A -> A", OTHER), term(" ".join(WIDER.signs()), OTHER)
        bad = [[good], [(good, 0)], [[0, good]], [(0, good, None)], [(0,)], [(True, good)], [(False, good)],
               [(-1, good)], [("0", good)], [(None, good)], [(0, term("c"))], [(0, good), (0, good)],
               [(1, good), (0, good)], [(0, good), (2, good), (2, good)], [(0, good), None], [(0, None)],
               [(number, good) for number in range(41)]]
        lists = [thing for thing in any_things() if isinstance(thing, (list, tuple)) and len(thing) > 0]
        lists = [thing for thing in lists if marked(thing) != marked([(0, rule("g A -> c"))])]
        for thing in things_but(list, tuple) + bad + lists:
            self.found(errors.NoList, thing, plain_rewritten, thing, None, most=None)
            self.found(errors.NoList, thing, plain_rewritten, thing, wide, most=None)
        for rows in ([], [(0, good)], [(0, good), (1, other)]):
            for thing in things_but(Term):
                self.found(errors.NoTerm, thing, plain_rewritten, rows, thing, most=None)
        self.found(errors.Unlike, wide, plain_rewritten, [(0, good), (1, other)], wide, most=None)
        self.found(errors.Unlike, other, plain_rewritten, [(0, good), (1, other)], WIDER, most=None)
        self.found(errors.Unlike, good, plain_rewritten, [(0, other), (1, other), (2, good), (3, good)], wide)
        for rows in ([], [(0, good)]):
            self.refused(errors.TooGreat, "many", 17, plain_rewritten, rows, WIDER, most=None)
            for thing in things_but(int) + [True, False, -1, 201]:
                self.found(errors.NoNumber, thing, plain_rewritten, rows, term("A"), most=thing)


if __name__ == "__main__":
    unittest.main()
