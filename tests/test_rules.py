"""Rules, and some rules kept together: points 91, 93 to 95."""

import itertools
import unittest

from termshelf import errors
from termshelf.putshelf import PutShelf
from termshelf.rules import Rule, Rules
from termshelf.shelves import PlainShelf
from termshelf.signs import Words
from termshelf.signshelf import SignShelf
from tests import plain
from tests.samples import BYS, LIKE, OTHER, WIDE, WORDS
from tests.samples import Case, Chance, any_things, great, marked, rule, rules_of, term, things_but

SHELVES = {"plain": PlainShelf, "signs": SignShelf, "puts": PutShelf}
TEXTS = ["f A B -> A", "g g A -> A", "f B A -> A", "f A A -> c", "c -> g c"]
ALIKE = [f"f {one} {other} -> {right}" for one, other in ["AB", "BA", "CD"] for right in (one, other, "c")]


def forty():
    """Forty rules no two of which have left sides that are variants."""
    return [f"{'g ' * many}{end} -> c" for many in range(1, 11) for end in ("c", "f A A", "f A B", "f c A")]


class One(Case):
    def test_what_it_tells(self):
        left, right = term("f A g B"), term("f B B")
        made = Rule(left=left, right=right)
        self.assertEqual([made.words(), made.left(), made.right()], [WORDS, left, right])
        self.assertEqual(str(made), "f A g B -> f B B")
        self.assertIs(type(repr(made)), str)
        self.assertEqual(str(Rule(term("c"), term("g c"))), "c -> g c")

    def test_normal_form(self):
        for text, told in [("f A g B -> f B B", "f N0 g N1 -> f N1 N1"), ("c -> g c", "c -> g c"),
                           ("f N1 N0 -> f N0 N1", "f N0 N1 -> f N1 N0"), ("f N0 N0 -> N0", "f N0 N0 -> N0"),
                           ("f Z9 f A Z9 -> A", "f N0 f N1 N0 -> N1"), ("f N2 N0 -> c", "f N0 N1 -> c")]:
            self.assertEqual(str(rule(text).normal()), told)
            self.assertIs(type(rule(text).normal()), Rule)
            self.assertEqual(rule(text).normal().normal(), rule(told))

    def test_normal_forms_by_chance(self):
        chance = Chance(91)
        for _ in range(300):
            left = chance.text(WIDE, 16, ["A", "B", "N0", "N1", "C7"])
            letters = term(left, WIDE).letters()
            if left in letters:
                continue
            right = chance.text(WIDE, 16, letters or ["d"])
            trees = [plain.tree(term(text, WIDE)) for text in (left, right)]
            normal = {letter: f"N{number}" for number, letter in enumerate(plain.letters_of(trees[0]))}
            told = rule(f"{left} -> {right}", WIDE).normal()
            self.assertEqual([plain.tree(told.left()), plain.tree(told.right())],
                             [plain.put(tree, normal) for tree in trees])

    def test_equal_just_where_both_sides_are(self):
        made = rule("f A B -> A")
        self.equal_just(made, [rule("f A B -> A"), Rule(term("f A B", LIKE), term("A", LIKE))],
                        [rule("f A B -> B"), rule("f A A -> A"), rule("f B A -> B"), rule("f A B -> A", OTHER),
                         rule("f A B -> A").left(), made.normal()] + things_but(Rule))

    def test_sides_of_sixteen_signs(self):
        left = self.sixteen()
        self.assertEqual(Rule(left, left).right(), left)
        wide = great("A", 17)
        self.refused(errors.TooGreat, "many", 17, Rule, wide, great("A", 33))
        self.refused(errors.TooGreat, "many", 33, Rule, left, great("B", 33))
        self.refused(errors.TooGreat, "many", 17, Rule, wide, term("B"))

    def test_sides_that_are_no_terms_or_of_other_words(self):
        self.refuses_two(Rule)

    def test_letters(self):
        for text in ("A", "N0", "Z99"):
            left = term(text)
            for right in ("A", "c", "f A B"):
                self.found(errors.NoRule, left, Rule, left, term(right))
            self.refused(errors.TooGreat, "many", 17, Rule, left, great("A", 17))
        for left, right in [("f A A", "B"), ("c", "A"), ("g A", "f A B"), ("f A B", "f A f B A0"), ("g N0", "N1")]:
            side = term(right)
            self.found(errors.NoRule, side, Rule, term(left), side)


class Kept(Case):
    def test_what_they_tell(self):
        for by in BYS:
            rules = Rules(words=LIKE, by=by)
            self.assertEqual([rules.words(), rules.rules(), len(rules), str(rules), rules.log()],
                             [WORDS, [], 0, "", []])
            made = [rule(text) for text in TEXTS]
            self.assertEqual([rules.put(rule=one) for one in made], [0, 1, 2, 3, 4])
            self.assertEqual(rules.rules(), list(enumerate(made)))
            self.assertEqual([rules.rule_of(number) for number in range(5)], made)
            self.assertEqual(rules.rule_of(number=3), made[3])
            self.assertEqual(len(rules), 5)
            self.assertEqual(str(rules), "0 f A B -> A; 1 g g A -> A; 2 f B A -> A; 3 f A A -> c; 4 c -> g c")
            self.assertIs(type(repr(rules)), str)
            self.assertEqual(rules.log(), ["put"] * 5)
        self.assertEqual(type(Rules(WORDS).shelf()), PlainShelf)

    def test_numbers_are_given_once(self):
        for by in BYS:
            rules = rules_of(by, TEXTS)
            self.assertIsNone(rules.drop(number=4))
            self.assertIsNone(rules.drop(1))
            self.assertEqual([number for number, _ in rules.rules()], [0, 2, 3])
            self.assertEqual(rules.put(rule("c -> g c")), 5)
            rules.drop(5)
            self.assertEqual([rules.put(rule(text)) for text in ("g g A -> A", "c -> g c")], [6, 7])
            self.assertEqual(str(rules), "0 f A B -> A; 2 f B A -> A; 3 f A A -> c; 6 g g A -> A; 7 c -> g c")
            self.assertEqual(rules.log(), ["put"] * 5 + ["drop", "drop", "put", "drop", "put", "put"])
            for number in (0, 2, 3, 6, 7):
                rules.drop(number)
            self.assertEqual([len(rules), rules.put(rule("c -> c"))], [0, 8])

    def test_what_is_no_number_of_a_rule(self):
        for by in BYS:
            rules = rules_of(by, TEXTS)
            rules.drop(2)
            before = marked(rules)
            for thing in things_but(int) + [True, False, 2, 5, -1, 10 ** 30 - 1, [0], (0,), "0"]:
                self.found(errors.NotThere, thing, rules.drop, thing)
                self.found(errors.NotThere, thing, rules.rule_of, thing)
            self.assertEqual(marked(rules), before)

    def test_equal_just_with_equal_rules_under_the_same_numbers(self):
        for by in BYS:
            one = rules_of(by, TEXTS[:2])
            dropped = rules_of("plain", TEXTS[:2] + [None])
            moved = rules_of("signs", [None] + TEXTS[:2])
            turned = rules_of(by, [TEXTS[1], TEXTS[0]])
            self.equal_just(one, [rules_of(other, TEXTS[:2]) for other in BYS] + [dropped],
                            [moved, turned, rules_of(by, TEXTS[:1]), rules_of(by, ["f B A -> B", TEXTS[1]]),
                             rules_of(by, TEXTS[:2], OTHER)] + things_but(Rules))
            self.equal_just(Rules(WORDS, by=by), [Rules(LIKE), Rules(WORDS, by="puts")], [Rules(OTHER), one, []])

    def test_their_shelf(self):
        for by in BYS:
            rules = rules_of(by, TEXTS + ["f c c -> c"])
            rules.drop(5)
            shelf = rules.shelf()
            self.assertIs(type(shelf), SHELVES[by])
            self.assertEqual([str(kept) for kept in shelf.terms()], ["f N0 N0", "f N0 N1", "g g N0", "c"])
            self.assertEqual([len(shelf.notes(kept)) for kept in shelf.terms()], [1, 2, 1, 1])
            self.assertEqual([shelf.words(), shelf], [WORDS, rules.shelf()])
            before = marked(rules)
            for kept in shelf.terms():
                shelf.take(kept, shelf.notes(kept)[0])
            shelf.put(term("A"), "one")
            self.assertEqual(marked(rules), before)
            self.assertEqual(len(rules.shelf()), 4)
            self.assertEqual(rules.put(rule("A -> A".replace("A", "g A"))), 6)

    def test_refusals_when_they_are_made(self):
        for thing in things_but(Words):
            self.found(errors.NoWords, thing, Rules, thing)
            self.found(errors.NoWords, thing, Rules, thing, by=None)
        for thing in things_but() + ["Plain", "puttings", "plains", ("plain",), ["signs"]]:
            self.found(errors.NoWay, thing, Rules, WORDS, by=thing)

    def test_refused_rules(self):
        for by in BYS:
            rules = rules_of(by, TEXTS)
            before = marked(rules)
            for thing in things_but(Rule):
                self.found(errors.NoRule, thing, rules.put, thing)
            for text in ("f A B -> A", "c -> c"):
                other = rule(text, OTHER)
                self.found(errors.Unlike, other, rules.put, other)
            for text in TEXTS:
                again = rule(text)
                self.found(errors.Twice, again, rules.put, again)
            self.assertEqual(marked(rules), before)
            self.assertEqual([rules.put(rule("f C B -> C")), rules.put(rule("f A B -> B"))], [5, 6])

    def test_forty_and_one_more(self):
        for by in BYS:
            rules = rules_of(by, forty())
            self.assertEqual([len(rules), len(rules.rules())], [40, 40])
            before = marked(rules)
            self.refused(errors.TooMany, "many", 41, rules.put, rule("f A B -> A"))
            again = rule(forty()[7])
            self.found(errors.Twice, again, rules.put, again)
            self.assertEqual(marked(rules), before)
            rules.drop(17)
            self.assertEqual(rules.put(rule("f A B -> A")), 40)
            self.refused(errors.TooMany, "many", 41, rules.put, rule("f A A -> A"))

    def test_eight_left_sides_that_are_variants_and_a_ninth(self):
        for by in BYS:
            rules = rules_of(by, ALIKE[:8])
            before = marked(rules)
            ninth = rule(ALIKE[8])
            self.refused(errors.TooMany, "many", 9, rules.put, ninth)
            self.refused(errors.TooMany, "many", 9, rules.put, rule("f Z Y -> f Y Y"))
            again = rule(ALIKE[2])
            self.found(errors.Twice, again, rules.put, again)
            self.assertEqual(marked(rules), before)
            self.assertEqual(rules.put(rule("f A A -> A")), 8)
            rules.drop(3)
            self.assertEqual(rules.put(ninth), 9)
            self.refused(errors.TooMany, "many", 9, rules.put, rule(ALIKE[3]))
            full = rules_of(by, ALIKE[:8] + forty()[:32])
            self.refused(errors.TooMany, "many", 41, full.put, ninth)

    def test_rules_and_lists_of_them_have_nothing_in_common(self):
        for by in BYS:
            rules, other = rules_of(by, TEXTS), rules_of(by, TEXTS)
            told = rules.rules()
            told.clear()
            rules.log().clear()
            rules.drop(0)
            self.assertEqual([len(other), len(rules.rules()), len(rules.log())], [5, 4, 6])

    def test_numbers_of_many_figures(self):
        for by in BYS:
            rules = Rules(WORDS, by=by)
            for number in range(800):
                self.assertEqual(rules.put(rule("f A B -> A")), number)
                if number % 100 != 99:
                    rules.drop(number)
                else:
                    rules.put_all([])
                    self.assertEqual(rules.rules()[-1][0], number)
                    rules.drop(number)
            self.assertEqual(len(rules), 0)
            self.assertEqual([rules.put(rule(text)) for text in ALIKE[:3]], [800, 801, 802])
            self.assertEqual([len(rules.shelf().notes(term("f A B")))], [3])


class Together(Case):
    def test_all_are_put_in(self):
        for by in BYS:
            rules = rules_of(by, [None, "f A B -> B"])
            handed = [rule(text) for text in TEXTS]
            self.assertEqual(rules.put_all(handed), [2, 3, 4, 5, 6])
            self.assertEqual(handed, [rule(text) for text in TEXTS])
            handed.clear()
            self.assertEqual(len(rules), 6)
            self.assertEqual(rules.put_all(rules=()), [])
            self.assertEqual(rules.put_all((rule("g c -> c"),)), [7])
            self.assertEqual(rules.log(), ["put", "drop", "put", "begin"] + ["put"] * 5
                             + ["end", "begin", "end", "begin", "put", "end"])
            self.assertEqual(Rules(WORDS, by=by).put_all([rule(text) for text in forty()]), list(range(40)))

    def test_a_later_one_that_is_refused(self):
        other, twice = rule("c -> c", OTHER), rule("f A B -> A")
        for by, ahead in itertools.product(BYS, range(4)):
            good = [rule(text) for text in ("f B A -> B", "g A -> A", "f A B -> f B A")][:ahead]
            for thing, error in [(None, errors.NoRule), ([], errors.NoRule), (other, errors.Unlike),
                                 (twice, errors.Twice)]:
                rules = rules_of(by, ["f A B -> A", None])
                before, shelf = (rules.rules(), str(rules)), rules.shelf()
                self.found(error, thing, rules.put_all, good + [thing, rule("c -> g c"), None])
                self.assertEqual((rules.rules(), str(rules)), before)
                self.assertEqual([rules.shelf(), len(rules)], [shelf, 1])
                self.assertEqual(rules.log(), ["put", "put", "drop", "begin"] + ["put"] * ahead + ["back", "end"])
                self.assertEqual(rules.put(rule("c -> g c")), 2)

    def test_too_many(self):
        for by in BYS:
            rules = rules_of(by, forty()[:38])
            before = rules.rules()
            more = [rule(text) for text in ("f A B -> A", "f A A -> A", "c -> c")]
            self.refused(errors.TooMany, "many", 41, rules.put_all, more)
            self.assertEqual(rules.rules(), before)
            self.assertEqual(rules.put_all(more[1:]), [38, 39])
            rules = rules_of(by, ALIKE[:7])
            self.refused(errors.TooMany, "many", 9, rules.put_all, [rule(text) for text in ALIKE[7:]])
            self.assertEqual(len(rules), 7)
            twice = [rule("c -> c"), rule("g c -> c"), rule("c -> c")]
            self.found(errors.Twice, twice[2], rules.put_all, twice)

    def test_refused_ahead_of_all(self):
        for by in BYS:
            rules = rules_of(by, TEXTS)
            before = marked(rules)
            for thing in things_but(list, tuple) + [[rule("g A -> A")] * 41, (None,) * 41]:
                self.found(errors.NoList, thing, rules.put_all, thing)
            self.assertEqual(marked(rules), before)
            for thing in any_things():
                if isinstance(thing, (list, tuple)) and 0 < len(thing) < 41:
                    self.refused(errors.NoRule, "found", thing[0], rules.put_all, thing)

    def test_refused_by_themselves_they_are_in_no_log(self):
        rules = rules_of("plain", TEXTS)
        for thing in (None, rule("c -> c", OTHER), rule(TEXTS[0])):
            with self.assertRaises(errors.TermError):
                rules.put(thing)
        with self.assertRaises(errors.NotThere):
            rules.drop(7)
        self.assertEqual(rules.log(), ["put"] * 5)


if __name__ == "__main__":
    unittest.main()
