"""Rules that are asked again and again: long rewriting, and what came and went between two asks (points 93 to 103)."""

import unittest
from unittest import mock

from termshelf import errors
from termshelf.meetings import joins, meetings, plain_meetings, shows_met
from termshelf.putshelf import PutShelf
from termshelf.rewriting import first_step, normal_of, plain_rewritten, rewritten, shows_rows, steps_of
from termshelf.rules import Rules
from termshelf.shelves import PlainShelf
from termshelf.signs import Words
from termshelf.signshelf import SignShelf
from tests import plain, plainrules
from tests.samples import BYS, WIDE, WORDS, Case, Chance, drawn_rules, rule, rules_of, term

SHELVES = {"plain": PlainShelf, "signs": SignShelf, "puts": PutShelf}

SWAPS = Words([("b", 1), ("a", 1), ("e", 0)])
CHAINS = Words([("u", 1), ("f", 1), ("c", 0)])
ENDS = ["f A -> A", "f f A -> c", "u A -> A"] + [f"{'u ' * many}A -> c" for many in range(2, 10)]
SIX = ["f g A f B c -> A", "f f A B C -> f A f B C", "g f A f B B -> f B A", "f A f g A B -> g B",
       "g g f A B -> f A g B", "f f g A B f A C -> c"]


def trees_of_rows(rows):
    return [row[:2] + (plain.tree(row[2]),) for row in rows]


def trees_of_meetings(rows):
    return [row[:3] + tuple([plain.tree(one) for one in row[3:]]) for row in rows]


class Told(Case):
    """What rules of all kinds must tell, held against the plain second telling."""

    def told_plainly(self, rules, tree, most):
        """That rules rewrite a term as is due, as the plain functions do and as they tell that it is shown."""
        trees = plainrules.trees_of(rules.rules())
        steps = plainrules.steps(trees, plain.tree(tree))
        self.assertEqual(trees_of_rows(steps_of(rules, tree)), steps)
        first = first_step(rules, tree)
        self.assertEqual([] if first is None else trees_of_rows([first]), steps[:1])
        ending, rows, left = plainrules.rewritten(trees, plain.tree(tree), most)
        told = rewritten(rules, tree, most=most)
        self.assertEqual((told[0], trees_of_rows(told[1])), (ending, rows))
        self.assertEqual(plain_rewritten(rules.rules(), tree, most=most), told)
        self.told(True, shows_rows(rules, tree, told[1]))
        if ending == "done":
            last = ([plain.tree(tree)] + [row[2] for row in rows])[-1]
            self.assertEqual(plain.tree(normal_of(rules, tree, most=most)), last)
        elif ending == "most":
            self.refused(errors.Endless, "many", most, normal_of, rules, tree, most=most)
        else:
            self.refused(errors.TooGreat, "many", len(plain.signs_of(left[2])), normal_of, rules, tree, most=most)
        return told

    def met_plainly(self, rules):
        """That rules meet as is due, and as the plain function tells."""
        told = meetings(rules)
        self.assertEqual(trees_of_meetings(told), plainrules.meetings(plainrules.trees_of(rules.rules())))
        self.assertEqual(plain_meetings(rules.rules()), told)
        return told


class Long(Told):
    def test_words_that_change_places(self):
        tree = term("b " * 8 + "a " * 7 + "e", SWAPS)
        for by in BYS:
            rules = rules_of(by, ["b a A -> a b A"], SWAPS)
            ending, rows = self.told_plainly(rules, tree, 200)
            self.assertEqual((ending, len(rows), str(rows[-1][2])), ("done", 56, "a " * 7 + "b " * 8 + "e"))
            self.assertEqual(rows[0], ((0,) * 7, 0, term("b " * 7 + "a b " + "a " * 6 + "e", SWAPS)))
            self.assertEqual(rows[1], ((0,) * 6, 0, term("b " * 6 + "a b b " + "a " * 6 + "e", SWAPS)))
            self.assertEqual(rewritten(rules, tree, most=55), ("most", rows[:55]))
            self.assertEqual(rewritten(rules, tree), ("most", rows[:50]))
            self.refused(errors.Endless, "many", 50, normal_of, rules, tree)
            self.told(False, shows_rows(rules, tree, rows[:30] + rows[31:]))
            self.assertEqual(self.told_plainly(rules, tree, 200), (ending, rows))

    def test_words_that_go_one_by_one(self):
        tree = term("u " * 9 + "f f c", CHAINS)
        rows = [((), 2, "u " * many + "f f c") for many in reversed(range(9))] + [((), 0, "f c"), ((), 0, "c")]
        for by in BYS:
            rules = rules_of(by, ENDS, CHAINS)
            ending, told = self.told_plainly(rules, tree, 200)
            self.assertEqual((ending, [row[:2] + (str(row[2]),) for row in told]), ("done", rows))
            many = len(steps_of(rules, tree))
            self.assertEqual(many, sum(9 - at for at in range(9)) + 3)
            others = [number for number in range(11) if number != 2]
            self.assertEqual(rewritten(rules, tree, only=others), ("done", [((), 3, term("c", CHAINS))]))
            rules.drop(2)
            self.assertEqual(self.told_plainly(rules, tree, 200), ("done", [((), 3, term("c", CHAINS))]))

    def test_a_rule_that_comes_and_goes(self):
        for by, made in [(by, made) for by in BYS for made in (rule("f A B -> A"), rule("f N1 g A -> c"))]:
            rules = Rules(WORDS, by=by)
            for number in range(650):
                self.assertEqual(rules.put(made), number)
                self.assertIsNone(rules.drop(number))
            self.assertEqual([len(rules), rules.rules(), rules.log()], [0, [], ["put", "drop"] * 650])
            self.found(errors.NotThere, 649, rules.drop, 649)
            self.assertEqual([len(rules.shelf()), rewritten(rules, term("f c g c"))], [0, ("done", [])])
            self.assertEqual([rules.put(made), rules.rules()], [650, [(650, made)]])
            self.assertEqual(self.told_plainly(rules, term("f c g c"), 50), ("done", [((), 650, term("c"))]))

    def test_six_rules_that_meet(self):
        kinds = [rules_of(by, SIX) for by in BYS]
        rows = self.met_plainly(kinds[0])
        self.assertEqual(len(rows), 32)
        for rules in kinds:
            self.assertEqual(self.met_plainly(rules), rows)
            for row in rows:
                self.told(True, shows_met(rules, row))


class Again(Told):
    def test_behind_a_rule_dropped_and_another_one_put(self):
        tree = term("f c f g c c")
        for by in BYS:
            rules = rules_of(by, ["f c A -> A", "g A -> A"])
            first = self.told_plainly(rules, tree, 50)
            self.assertEqual([str(row[2]) for row in first[1]], ["f g c c", "f c c", "c"])
            rules.drop(0)
            self.assertEqual(self.told_plainly(rules, tree, 50), ("done", [((1, 0), 1, term("f c f c c"))]))
            self.told(False, shows_rows(rules, tree, first[1]))
            # It has the same left side, with other letters.
            rules.put(rule("f c B -> g B"))
            told = self.told_plainly(rules, tree, 50)
            self.assertEqual([row[:2] + (str(row[2]),) for row in told[1]],
                             [((), 2, "g f g c c"), ((), 1, "f g c c"), ((0,), 1, "f c c"), ((), 2, "g c"),
                              ((), 1, "c")])
            rules.drop(1)
            self.assertEqual(str(normal_of(rules, tree)), "g f g c c")
            # The same rule once more, which has another number now.
            rules.put(rule("g A -> A"))
            self.assertEqual([row[1] for row in self.told_plainly(rules, tree, 50)[1]], [2, 3, 3, 2, 3])
            rules.drop(2)
            rules.drop(3)
            self.assertEqual(self.told_plainly(rules, tree, 50), ("done", []))

    def test_behind_rules_that_were_taken_back(self):
        tree = term("f c g c")
        for by in BYS:
            rules = rules_of(by, ["f c A -> A"])
            before = self.told_plainly(rules, tree, 50)
            rows = self.met_plainly(rules)
            more = [rule("g A -> c"), rule("f A B -> B")]
            self.found(errors.NoRule, None, rules.put_all, more + [None])
            self.assertEqual([self.told_plainly(rules, tree, 50), self.met_plainly(rules)], [before, rows])
            self.assertEqual(rules.put_all(more), [1, 2])
            self.assertEqual([row[:2] for row in steps_of(rules, tree)], [((), 0), ((), 2), ((1,), 1)])
            self.assertEqual([row[1] for row in self.told_plainly(rules, tree, 50)[1]], [0, 1])
            rules.drop(0)
            self.assertEqual([row[1] for row in self.told_plainly(rules, tree, 50)[1]], [2, 1])

    def test_meetings_behind_rules_that_came_and_went(self):
        for by in BYS:
            rules = rules_of(by, SIX[:3])
            rows = self.met_plainly(rules)
            rules.drop(1)
            self.assertEqual(self.met_plainly(rules), [row for row in rows if 1 not in (row[0], row[2])])
            for row in rows:
                self.told(1 not in (row[0], row[2]), shows_met(rules, row))
            rules.put(rule(SIX[1]))
            self.assertEqual(len(self.met_plainly(rules)), len(rows))
            self.assertEqual({row[0] for row in meetings(rules)} | {row[2] for row in meetings(rules)}, {0, 2, 3})
        rules = rules_of("signs", ["f c A -> A", "f A c -> g A"])
        row = meetings(rules)[0]
        self.told(False, joins(rules, row))
        rules.put(rule("g A -> A"))
        self.told(True, joins(rules, row))

    def test_long_lives_by_chance(self):
        chance = Chance(15)
        for number in range(24):
            words = chance.one_of([WORDS, WIDE])
            texts = [text for text in drawn_rules(chance, words, 8) if text is not None]
            kinds = [Rules(words, by=by) for by in BYS]
            for _ in range(14):
                numbers = [name for name, _ in kinds[0].rules()]
                deed, at = chance.one_of(["put", "put", "drop"]), chance.one_of(range(len(texts)))
                for rules in kinds:
                    if deed == "drop" and numbers:
                        rules.drop(numbers[at % len(numbers)])
                    elif rule(texts[at], words) not in [kept for _, kept in rules.rules()]:
                        rules.put(rule(texts[at], words))
                tree = term(chance.text(words, 16, ["A", "B"]), words)
                most = chance.one_of([0, 4, 20])
                told = [self.told_plainly(rules, tree, most) for rules in kinds]
                self.assertEqual(told, [told[0]] * 3)
                self.met_plainly(kinds[number % 3])
                self.assertEqual([rules.shelf() for rules in kinds], [kinds[0].shelf()] * 3)


class ByTheirShelf(Told):
    def test_rules_are_found_by_the_shelf_of_their_kind(self):
        for by in BYS:
            for ask in (lambda rules: rewritten(rules, term("f c c")), lambda rules: steps_of(rules, term("f c c")),
                        lambda rules: normal_of(rules, term("f c c")), meetings):
                rules = rules_of(by, SIX)
                kind = SHELVES[by]
                with mock.patch.object(kind, "candidates", autospec=True, side_effect=kind.candidates) as asked:
                    ask(rules)
                    self.assertGreater(asked.call_count, 0)
                    self.assertEqual({type(call.args[0]) for call in asked.call_args_list}, {kind})

    def test_the_shelf_is_not_asked_again_while_nothing_is_done(self):
        for by in BYS:
            rules = rules_of(by, SIX)
            before = self.told_plainly(rules, term("f g c f f c c c"), 50)
            rows = meetings(rules)
            kind = SHELVES[by]
            with mock.patch.object(kind, "candidates", autospec=True, side_effect=kind.candidates) as asked:
                self.assertEqual(rewritten(rules, term("f g c f f c c c")), before)
                self.assertEqual(meetings(rules), rows)
                self.assertEqual(asked.call_count, 0)
                rules.drop(0)
                self.told_plainly(rules, term("f g c f f c c c"), 50)
                self.assertGreater(asked.call_count, 0)

    def test_candidates_that_are_too_many(self):
        for by in BYS:
            rules = rules_of(by, SIX)
            rows = meetings(rules)
            with mock.patch.object(SHELVES[by], "candidates", lambda shelf, way, tree: shelf.terms()[::-1]):
                rules = rules_of(by, SIX)
                self.assertEqual(meetings(rules), rows)
                self.told_plainly(rules, term("f g c f f c c c"), 50)


if __name__ == "__main__":
    unittest.main()
