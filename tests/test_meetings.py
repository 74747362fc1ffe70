"""Where rules meet: points 101 to 103."""

import unittest
from unittest import mock

from termshelf import errors
from termshelf.meetings import joins, meetings, plain_meetings, shows_met
from termshelf.rewriting import normal_of
from termshelf.rules import Rule, Rules
from termshelf.terms import Term
from tests import plain, plainrules
from tests.samples import BYS, LIKE, OTHER, WIDE, WORDS
from tests.samples import Case, Chance, any_things, drawn_rules, great, marked, rule, rules_of, term, things_but
from tests.touched import touched

# Sums that are put together to the right alone, with a word that counts nothing.
GROUP = ["f f A B C -> f A f B C", "f c A -> A"]


def texts(rows):
    return [row[:3] + tuple([str(one) for one in row[3:]]) for row in rows]


def kept_by(by, rules):
    told = Rules(WIDE, by=by)
    told.put_all(rules)
    return told


class All(Case):
    def told(self, texts_of_rules, rows):
        for by in BYS:
            rules = rules_of(by, texts_of_rules)
            self.assertEqual(texts(meetings(rules)), rows)
            self.assertEqual(meetings(rules=rules), meetings(rules))
            self.assertEqual(plain_meetings(rows=tuple(rules.rules())), meetings(rules))

    def test_ordinary_ones(self):
        self.told(GROUP, [
            (0, (0,), 0, "f f f N0 N1 N2 N3", "f f N0 N1 f N2 N3", "f f N0 f N1 N2 N3"),
            (0, (0,), 1, "f f c N0 N1", "f c f N0 N1", "f N0 N1")])
        self.told(["g g A -> A"], [(0, (0,), 0, "g g g N0", "g N0", "g N0")])
        self.told(["f A B -> A", "f A B -> B"], [(0, (), 1, "f N0 N1", "N0", "N1")])
        self.told(["c -> g c", None, "f A c -> A"], [(2, (1,), 0, "f N0 c", "N0", "f N0 g c")])

    def test_themselves(self):
        # At the spot () a rule meets no other one of a lesser number, and never itself.
        self.told(["c -> g c"], [])
        self.told(["f A B -> c"], [])
        self.told(["f A A -> A"], [])
        self.told(["f c f A c -> A"], [])
        self.told(["f A f c A -> g A"], [(0, (1,), 0, "f f c c f c f c c", "g f c c", "f f c c g c")])
        self.told(["g f A g A -> A"],
                  [(0, (0, 1), 0, "g f f N0 g N0 g f N0 g N0", "f N0 g N0", "g f f N0 g N0 N0")])
        self.told(["g g g A -> c"], [(0, (0,), 0, "g g g g N0", "c", "g c"),
                                     (0, (0, 0), 0, "g g g g g N0", "c", "g g c")])

    def test_letters_that_are_called_alike(self):
        self.told(["f g A B -> f B A", "g A -> f A A"], [(0, (0,), 1, "f g N0 N1", "f N1 N0", "f f N0 N0 N1")])
        self.told(["f g g A A -> c", "g f A B -> B"],
                  [(0, (0, 0), 1, "f g g f N0 N1 f N0 N1", "c", "f g N1 f N0 N1"),
                   (1, (0,), 0, "g f g g N0 N0", "N0", "g c")])
        self.told(["f g A f A B -> B", "g f B A -> B"],
                  [(0, (0,), 1, "f g f N0 N1 f f N0 N1 N2", "N2", "f N0 f f N0 N1 N2"),
                   (0, (1,), 0, "f g g N0 f g N0 f N0 N1", "f N0 N1", "f g g N0 N1"),
                   (1, (0,), 0, "g f g N0 f N0 N1", "g N0", "g N1")])
        self.told(["f B g A -> B", "g N1 -> N1"], [(0, (1,), 1, "f N0 g N1", "N0", "f N0 N1")])
        for number in range(12):
            self.told([f"f N{number} g A -> N{number}", f"g N{number} -> c"],
                      [(0, (1,), 1, "f N0 g N1", "N0", "f N0 c")])

    def test_none_and_few(self):
        self.told([], [])
        self.told(["f A B -> c", "g A -> c"], [])
        self.told(["f c A -> c", "f g A B -> c", "g g f A A -> c"],
                  [(1, (0,), 2, "f g g f N0 N0 N1", "c", "f c N1"), (2, (0, 0), 0, "g g f c c", "c", "g g c"),
                   (2, (0, 0), 1, "g g f g N0 g N0", "c", "g g c")])
        self.told(["f g A A -> A", "f A g A -> A"], [])

    def test_by_chance_with_a_shelf_and_without(self):
        chance = Chance(102)
        seen = 0
        for number in range(120):
            words = chance.one_of([WORDS, WIDE])
            drawn = drawn_rules(chance, words, 1 + number % 5)
            kinds = [rules_of(by, drawn, words) for by in BYS]
            rows = kinds[0].rules()
            told = [plainrules.texts_of(row) for row in plainrules.meetings(plainrules.trees_of(rows))]
            seen += len(told)
            self.assertEqual(texts(plain_meetings(rows)), told)
            for kind in kinds:
                self.assertEqual(texts(meetings(kind)), told)
                for row in meetings(kind):
                    self.assertIs(type(row), tuple)
                    self.assertIs(shows_met(kind, row), True)
        self.assertGreater(seen, 150)

    def test_with_sides_of_sixteen_signs(self):
        chance = Chance(101)
        for _ in range(12):
            lefts = [chance.text(WIDE, 16, ["A", "B", "C"]) for _ in range(4)]
            drawn = [f"{left} -> d" for left in lefts if left not in ("A", "B", "C")]
            rows = [(number, rule(text, WIDE)) for number, text in enumerate(drawn)]
            told = [plainrules.texts_of(row) for row in plainrules.meetings(plainrules.trees_of(rows))]
            self.assertEqual(texts(plain_meetings(rows)), told)

    def test_great_peaks_and_ends(self):
        # Each letter becomes some of the next one, by turns of the one rule's and of the other one's.
        texts_of_rules = ["t A t B B B B B t C C C h C C C -> t A A A t A A A t A A A h A A A",
                          "t t A A A A A t B B B h B B B B -> A"]
        rows = [(number, rule(text, WIDE)) for number, text in enumerate(texts_of_rules)]
        told = [plainrules.texts_of(row) for row in plainrules.meetings(plainrules.trees_of(rows))]
        self.assertEqual([[len(text.split(" ")) for text in row[3:]] for row in told], [[1065, 9664, 201]])
        self.assertEqual(texts(plain_meetings(rows)), told)
        for by in BYS:
            rules = kept_by(by, [made for _, made in rows])
            self.assertEqual(texts(meetings(rules)), told)
            self.told_row(rules, meetings(rules)[0])

    def test_more_signs_than_may_be_told(self):
        rules = [rule("f g A B -> t B B B B", WIDE), rule("g A -> t A A c A", WIDE), rule("f A B -> c", WIDE)]
        rows = list(enumerate(rules))
        self.assertEqual([len(one) for row in plain_meetings(rows) for one in row[3:]],
                         [4, 5, 1, 4, 5, 7])
        # Rules whose peaks have as many signs as are refused are hard to find, so fewer are let by here.
        for most, found in [(7, None), (6, 7), (5, 7), (4, 5), (3, 4)]:
            with mock.patch("termshelf.meetings.MOST_TOLD", most):
                for ask in [lambda: plain_meetings(rows)] + [lambda by=by: meetings(kept_by(by, rules)) for by in BYS]:
                    if found is None:
                        self.assertEqual(len(ask()), 2)
                    else:
                        self.refused(errors.TooGreat, "many", found, ask)

    def test_forty_rules(self):
        drawn = [f"{'g ' * many}A -> {'g ' * less}A" for many in range(1, 9) for less in range(5)]
        told = [rules_of(by, drawn) for by in BYS]
        plainly = plain_meetings(told[0].rules())
        self.assertEqual(len(plainly), 40 * 39 // 2 + sum(5 * (many - 1) * 40 for many in range(1, 9)))
        for rules in told:
            self.assertEqual(meetings(rules), plainly)

    def test_forty_rules_with_sides_of_sixteen_signs(self):
        chance = Chance(140)
        made = []
        while len(made) < 40:
            left, right = [term(chance.text(WIDE, 16, ["A", "B", "C", "D"]), WIDE) for _ in range(2)]
            if len(left) > 10 and set(right.letters()) <= set(left.letters()):
                made.append(Rule(left, right))
        kinds = [kept_by(by, made) for by in BYS]
        told = plain_meetings(kinds[0].rules())
        self.assertGreater(len(told), 100)
        for rules in kinds:
            self.assertEqual(meetings(rules), told)
            for row in told[::10]:
                self.told_row(rules, row)

    def told_row(self, rules, row):
        self.assertIs(shows_met(rules, row), True)
        try:
            self.assertIn(joins(rules, row, most=200), [True, False])
        except (errors.Endless, errors.TooGreat) as refusal:
            self.assertIn(type(refusal), [errors.Endless, errors.TooGreat])

    def test_lists_are_new_ones(self):
        rules = rules_of("signs", GROUP)
        before = marked(rules)
        meetings(rules).clear()
        rows = rules.rules()
        plain_meetings(rows).clear()
        self.assertEqual([len(meetings(rules)), len(plain_meetings(rows)), marked(rules)], [2, 2, before])
        told = meetings(rules)
        rules.drop(0)
        self.assertEqual([len(told), meetings(rules)], [2, []])

    def test_refusals(self):
        for thing in things_but(Rules) + [rules_of("plain", GROUP).rules()]:
            self.found(errors.NoRule, thing, meetings, thing)
        good, other = rule("g A -> A"), rule("g A -> A", OTHER)
        bad = [[good], [(good, 0)], [[0, good]], [(0, good, None)], [(True, good)], [(-1, good)], [("0", good)],
               [(0, term("c"))], [(0, good), (0, other)], [(1, good), (0, good)], [(0, good), None],
               [(number, good) for number in range(41)]]
        for thing in things_but(list, tuple) + bad:
            self.found(errors.NoList, thing, plain_meetings, thing)
        self.found(errors.Unlike, other.left(), plain_meetings, [(0, good), (3, good), (4, other), (5, good)])
        self.found(errors.Unlike, good.left(), plain_meetings, ((0, other), (1, good), (2, other), (3, good)))
        self.assertEqual(len(plain_meetings([(number, good) for number in range(40)])), 780)
        self.assertEqual([plain_meetings([]), plain_meetings(())], [[], []])


class Shown(Case):
    def test_those_that_are_told(self):
        for by in BYS:
            rules = rules_of(by, GROUP)
            for row in meetings(rules):
                self.told(True, shows_met(rules, row))
                self.told(True, shows_met(rules=rules, thing=row))
                self.told(False, shows_met(rules, list(row)))
                self.told(False, shows_met(rules, row[:5] + (row[4],)))

    def shows(self, rules, row):
        return shows_met(rules, row[:3] + tuple([term(text) for text in row[3:]]))

    def test_peaks_that_are_not_the_most_general_ones(self):
        rules = rules_of("plain", GROUP)
        for row in [(0, (0,), 1, "f f c g N0 N1", "f c f g N0 N1", "f g N0 N1"),
                    (0, (0,), 1, "f f c c c", "f c f c c", "f c c"),
                    (0, (0,), 1, "f f c N0 N0", "f c f N0 N0", "f N0 N0")]:
            self.told(True, self.shows(rules, row))
        for row in [(0, (0,), 1, "f f c g A N1", "f c f g A N1", "f g A N1"),
                    (0, (0,), 1, "f f c N1 N0", "f c f N1 N0", "f N1 N0"),
                    (0, (0,), 1, "f f g c N0 N1", "f g c f N0 N1", "f N0 N1"),
                    (0, (0,), 1, "f c N0", "N0", "N0"), (0, (0, 0), 1, "f f c N0 N1", "f c f N0 N1", "f N0 N1")]:
            self.told(False, self.shows(rules, row))

    def test_the_spot_of_the_whole_left_side(self):
        rules = rules_of("signs", ["f A B -> A", "f A B -> B", None, "f c A -> A"])
        self.told(True, self.shows(rules, (0, (), 1, "f N0 N1", "N0", "N1")))
        self.told(False, self.shows(rules, (1, (), 0, "f N0 N1", "N1", "N0")))
        self.told(False, self.shows(rules, (0, (), 0, "f N0 N1", "N0", "N0")))
        self.told(True, self.shows(rules, (1, (), 3, "f c N0", "N0", "N0")))
        self.told(False, self.shows(rules, (0, (), 2, "f N0 N1", "N0", "N1")))
        # At a letter no rules meet.
        self.told(False, self.shows(rules, (0, (0,), 0, "f f N0 N1 N2", "f N0 N1", "f N0 N2")))

    def test_one_of_them_twice(self):
        rules = rules_of("puts", ["g g A -> A"])
        self.told(True, self.shows(rules, (0, (0,), 0, "g g g N0", "g N0", "g N0")))
        self.told(True, self.shows(rules, (0, (0,), 0, "g g g g c", "g g c", "g g c")))
        self.told(False, self.shows(rules, (0, (), 0, "g g N0", "N0", "N0")))
        self.told(False, self.shows(rules, (0, (0,), 0, "g g N0", "N0", "N0")))

    def is_met(self, rules, thing):
        """As the point says it, of a thing whose terms are texts."""
        first, spot, second, peak, one, other = thing
        rows = dict(rules)
        if first not in rows or second not in rows or spot == () and second <= first:
            return False
        left = plain.parts_of(rows[first][0])
        if spot not in left or isinstance(left[spot], str):
            return False
        trees = [plain.tree(term(text)) for text in (peak, one, other)]
        if plain.normal(trees[0]) != trees[0]:
            return False
        ends = [plainrules.made_of(rows[first], trees[0], ())]
        ends += [plainrules.made_of(rows[second], trees[0], spot)] if ends[0] is not None else []
        return ends == trees[1:]

    def test_by_chance(self):
        chance = Chance(103)
        seen = []
        for _ in range(60):
            rules = rules_of(chance.one_of(BYS), drawn_rules(chance, WORDS, 3))
            trees = plainrules.trees_of(rules.rules())
            rows = texts(meetings(rules))
            for row in rows[:6]:
                small = chance.one_of(["c", "g c", "N0", "f N0 N1"])
                more = [" ".join(plain.signs_of(plain.put(plain.tree(term(text)), {"N0": plain.tree(term(small))})))
                        for text in row[3:]]
                other = chance.one_of(rows)
                for thing in (row, row[:3] + tuple(more), other[:3] + row[3:], row[:5] + other[5:],
                              row[:4] + (row[5], row[4]), (row[2], row[1], row[0]) + row[3:]):
                    seen.append(self.is_met(trees, thing))
                    self.told(seen[-1], self.shows(rules, thing))
        self.assertGreater(min(seen.count(True), seen.count(False)), 100)

    def test_one_thing_otherwise(self):
        rules = rules_of("plain", GROUP)
        rows = plainrules.trees_of(rules.rules())
        for row in meetings(rules):
            for thing in touched(row) + any_things():
                good = isinstance(thing, tuple) and len(thing) == 6
                good = good and [type(part).__name__ for part in thing] == ["int", "tuple", "int"] + ["Term"] * 3
                good = good and all([type(part) is int for part in thing[1]])
                before = marked(thing)
                self.told(bool(good) and self.is_met(rows, texts([thing])[0]), shows_met(rules, thing))
                self.assertEqual(marked(thing), before)

    def test_truths_are_no_numbers(self):
        rules = rules_of("plain", ["f c A -> A", "f A f B C -> c"])
        row = (1, (1,), 0, term("f N0 f c N1"), term("c"), term("f N0 N1"))
        self.told(True, shows_met(rules, row))
        self.told(False, shows_met(rules, (True,) + row[1:]))
        self.told(False, shows_met(rules, row[:1] + ((True,),) + row[2:]))
        self.told(False, shows_met(rules, row[:2] + (False,) + row[3:]))
        self.told(False, shows_met(rules, row[:1] + ([1],) + row[2:]))
        self.told(False, shows_met(rules, row + (None,)))
        self.told(False, shows_met(rules, row[:5]))
        other = term("f N0 f c N1", OTHER)
        self.told(False, shows_met(rules, row[:3] + (other,) + row[4:]))
        self.told(False, shows_met(rules, row[:5] + (term("f N0 N1", OTHER),)))
        self.told(False, shows_met(rules, row[:3] + tuple([term(str(one), OTHER) for one in row[3:]])))
        self.told(True, shows_met(rules, row[:5] + (term("f N0 N1", LIKE),)))

    def test_great_terms(self):
        rules = rules_of("plain", ["f c A -> f A f A A", "f A f B C -> c"])
        for many, part in [(1001, great("N1", 1001)), (4001, great("N1", 4001))]:
            peak = Term(WORDS, ["f", "N0", "f", "c"] + part.signs(), most=9999)
            end = ["f", "N0", "f"] + part.signs() + ["f"] + part.signs() * 2
            truth = len(end) < 9999
            end = Term(WORDS, end if truth else part.signs(), most=9999)
            self.told(truth, shows_met(rules, (1, (1,), 0, peak, term("c"), end)))
            self.told(False, shows_met(rules, (1, (1,), 0, peak, term("c"), peak)))

    def test_refusals(self):
        for thing in things_but(Rules):
            self.found(errors.NoRule, thing, shows_met, thing, None)
            self.found(errors.NoRule, thing, shows_met, thing, meetings(rules_of("plain", GROUP))[0])


class Joined(Case):
    def test_ends_that_join_and_that_do_not(self):
        for by in BYS:
            rules = rules_of(by, GROUP)
            self.assertEqual([joins(rules, row) for row in meetings(rules)], [True, True])
            rules = rules_of(by, GROUP + ["f A c -> A", "f g A A -> c"])
            told = [(row[:3], joins(rules, row)) for row in meetings(rules)]
            self.assertIn(False, [truth for _, truth in told])
            for row in meetings(rules):
                truth = normal_of(rules, row[4]) == normal_of(rules, row[5])
                self.told(truth, joins(rules=rules, thing=row, most=200))
            self.told(False, joins(rules_of(by, ["f A B -> A", "f A B -> B"]),
                                   (0, (), 1, term("f N0 N1"), term("N0"), term("N1")), most=0))
            self.told(True, joins(rules_of(by, ["f A B -> A", "f A B -> B"]),
                                  (0, (), 1, term("f N0 N0"), term("N0"), term("N0")), most=0))

    def test_by_chance(self):
        chance = Chance(104)
        seen = []
        for _ in range(80):
            drawn = drawn_rules(chance, WORDS, 3) + chance.one_of([[], ["f g g g A B -> f f A f A f A f A A f A A"]])
            kinds = [rules_of(by, drawn) for by in BYS]
            trees = plainrules.trees_of(kinds[0].rules())
            for row in meetings(kinds[0])[:8]:
                self.joined_as_plainly(kinds, trees, row, chance.one_of([0, 2, 50]), seen)
        self.assertEqual(set(seen), {"True", "False", "great", "most", "wide"})

    def joined_as_plainly(self, kinds, trees, row, most, seen):
        lasts = []
        for end in row[4:]:
            tree = plain.tree(end)
            ending, rows, left = plainrules.rewritten(trees, tree, most)
            if len(end) > 16:
                ending, left = "great", (None, None, tree)
            if ending != "done":
                seen.append(ending)
                many = most if ending == "most" else len(plain.signs_of(left[2]))
                error = errors.Endless if ending == "most" else errors.TooGreat
                for rules in kinds:
                    self.refused(error, "many", many, joins, rules, row, most=most)
                return
            lasts.append(rows[-1][2] if rows else tree)
        seen.append(str(lasts[0] == lasts[1]))
        for rules in kinds:
            self.told(lasts[0] == lasts[1], joins(rules, row, most=most))

    def test_refusals(self):
        for by in BYS:
            rules = rules_of(by, GROUP)
            row = meetings(rules)[0]
            before = marked(rules)
            for thing in things_but(Rules):
                self.found(errors.NoRule, thing, joins, thing, None, most=None)
            for thing in any_things() + [list(row), row[:5], row + (None,), row[:4] + (row[5], row[4])]:
                self.found(errors.NoRow, thing, joins, rules, thing, most=None)
            for thing in things_but(int) + [True, False, -1, 201]:
                self.found(errors.NoNumber, thing, joins, rules, row, most=thing)
            self.refused(errors.Endless, "many", 0, joins, rules, row, most=0)
            self.assertEqual(marked(rules), before)

    def test_ends_that_are_too_great(self):
        great_ends = "f f f A A f A A f f A A f A A"
        for by in BYS:
            # Of both ends the one is looked at first, and wholly.
            rules = rules_of(by, [f"f g A B -> {great_ends}", f"g g A -> {great_ends}", "c -> c"])
            row = meetings(rules)[0]
            self.assertEqual([row[:3], len(row[4]), len(row[5])], [(0, (0,), 1), 23, 17])
            self.refused(errors.TooGreat, "many", 23, joins, rules, row, most=None)
            rules = rules_of(by, ["f g A B -> f A c", f"g A -> {great_ends}", "c -> c"])
            row = meetings(rules)[0]
            self.assertEqual([row[:3], len(row[4]), len(row[5])], [(0, (0,), 1), 3, 17])
            self.found(errors.NoNumber, None, joins, rules, row, most=None)
            self.refused(errors.Endless, "many", 7, joins, rules, row, most=7)
            rules = rules_of(by, ["f g A B -> f A c", f"g A -> {great_ends}"])
            self.found(errors.NoNumber, "x", joins, rules, row, most="x")
            self.refused(errors.TooGreat, "many", 17, joins, rules, row, most=0)


if __name__ == "__main__":
    unittest.main()
