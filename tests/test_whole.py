"""The whole program: long rows of deeds on shelves of all kinds, other names, and calls by names (points 6, 7, 9)."""

import inspect
import itertools
import unittest

from termshelf import errors
from termshelf.answers import Answer, answer_of
from termshelf.apart import first_wrong, shows_apart, why_apart
from termshelf.covers import covers, no_cover, shows_cover, shows_no_cover, uncovered
from termshelf.cutting import asked_of, cut, joined, root_of, roots_for, unlike_terms
from termshelf.desk import Desk
from termshelf.desklines import is_line
from termshelf.handing import Handing, teller
from termshelf.joined import pushed, told_by, why_told
from termshelf.marks import is_letter, is_name, is_spot, is_whole, letter_rank, normal_letter, number_in
from termshelf.marks import rows_in, words_in
from termshelf.meetings import joins, meetings, plain_meetings, shows_met
from termshelf.nomatch import shows_no_variant, shows_not, shows_unlike, why_no_variant, why_not, why_unlike
from termshelf.putbars import bar_of, shows_bar
from termshelf.puttings import Putting, matched, meeting, shows_meeting
from termshelf.puttree import PutNode, common_part, filled, fits, is_pattern
from termshelf.rewriting import first_step, normal_of, plain_rewritten, rewritten, shows_rows, steps_of
from termshelf.rules import Rule, Rules
from termshelf.shelftext import shelf_of as shelf_read
from termshelf.shelftext import shelf_text
from termshelf.signs import Words
from termshelf.signtree import SignTree
from termshelf.terms import Term, ahead, in_order, term_of, variants
from tests.samples import BYS, KINDS, WAYS, WORDS
from tests.samples import Case, Chance, drawn_rules, putting, rule, rules_of, shelf_of, term
from tests.test_cutting import KIND_OF

WORD_OF = {kind: word for word, kind in KIND_OF.items()}

# Other names of the words and letters, in the same orders.
NAMES = {"f": "plus", "g": "nextone", "c": "null"}
LETTERS = {"A": "B", "B": "B0", "C": "X9", "D": "Z99"}
CALLED = Words([("plus", 2), ("nextone", 1), ("null", 0)])


def shown(thing):
    """What is told, as lists, tuples and texts that can be held against others."""
    if isinstance(thing, Answer):
        return [str(part) for part in (thing, thing.asked(), thing.keeping(), thing.whole())]
    if isinstance(thing, (list, tuple)):
        return type(thing)([shown(part) for part in thing])
    if isinstance(thing, dict):
        return [(key, shown(thing[key])) for key in thing]
    return thing if thing is None or isinstance(thing, (bool, int, str)) else str(thing)


def outcome(ask, /, *things, **named):
    """What is told, or the class and the fields of what is refused."""
    try:
        return shown(ask(*things, **named))
    except (errors.TermError, errors.Absent, errors.Ended) as refusal:
        return (type(refusal).__name__, str(vars(refusal)))


def drawn_ask(chance, within):
    """A joined ask by chance."""
    word = chance.one_of(["one", "all", "any", "none"]) if within > 1 else "one"
    if word == "one":
        return ("one", chance.one_of(WAYS), term(chance.text(WORDS, 4, ["A", "B"])))
    if word == "none":
        return ("none", drawn_ask(chance, within - 1))
    return (word, [drawn_ask(chance, within - 1) for _ in range(chance.one_of([0, 1, 2, 3]))])


class Beside(Case):
    """The same done to shelves of all kinds, one beside another."""

    def alike(self, told):
        self.assertEqual([one for one in told if one != told[0]], [])
        return told[0]

    def asked(self, chance, shelves):
        way, ask = chance.one_of(WAYS), term(chance.text(WORDS, 6, ["A", "B"]))
        answers = self.alike([outcome(shelf.ask, way, ask) for shelf in shelves])
        barred = self.alike([outcome(shelf.barred, way, ask) for shelf in shelves])
        self.assertEqual(len(answers) + len(barred), len(shelves[0]))
        self.alike([outcome(shelf.ask, way, ask, limit=2) for shelf in shelves] + [answers[:2]])
        self.alike([outcome(asked_of, cut(shelf), way, ask) for shelf in shelves] + [answers])
        self.alike([outcome(teller(shelf, way), ask) for shelf in shelves] + [answers])
        for shelf in shelves:
            self.assertLessEqual(shelf.steps(way, ask), shelves[0].steps(way, ask))

    def looked_at(self, chance, shelves):
        ask = drawn_ask(chance, 3)
        told = self.alike([outcome(told_by, shelf, one) for shelf in shelves for one in (ask, pushed(ask))])
        for kept in shelves[0].terms():
            truth, _ = self.alike([outcome(why_told, shelf, kept, ask) for shelf in shelves])
            self.assertEqual(truth, str(kept) in told)
        self.alike([shelf_text(shelf).split("\n")[1:] for shelf in shelves])
        self.alike([outcome(cut, shelf) for shelf in shelves])
        self.alike([outcome(unlike_terms, one, other) for one, other in itertools.product(shelves, repeat=2)] + [[]])
        self.alike([shown(joined(list(cut(shelf).values()) or [shelf]).terms()) for shelf in shelves]
                   + [shown(shelves[0].terms())])

    def handed(self, chance, handings):
        word = chance.one_of(["more", "more", "left", "rest", "given", "begin_anew"])
        for steady in (0, 1):
            self.alike([outcome(getattr(row[steady], word)) for row in handings])

    def done(self, chance, shelves):
        rows = [(chance.one_of(["put", "put", "take"]), term(chance.text(WORDS, 6, ["A", "B"])), chance.one_of("abc"))
                for _ in range(chance.one_of([1, 1, 2, 5]))]
        if len(rows) > 1:
            self.alike([outcome(shelf.all_deeds, rows) for shelf in shelves])
        else:
            for word, made, note in rows:
                self.alike([outcome(getattr(shelf, word), made, note) for shelf in shelves])
        self.alike([(shelf.changes(), shelf.log(), str(shelf)) for shelf in shelves])

    def test_long_rows(self):
        for seed in range(12):
            chance = Chance(seed)
            most = chance.one_of([5, 40])
            shelves = [kind(WORDS, most=most) for kind in KINDS]
            ask = term(chance.text(WORDS, 3, ["A", "B"]))
            handings = [[Handing(shelf, "meets", ask, steady=steady) for steady in (True, False)] for shelf in shelves]
            for number in range(60):
                self.done(chance, shelves)
                self.handed(chance, handings)
                if number % 4 == 0:
                    self.asked(chance, shelves)
                if number % 20 == 19:
                    self.looked_at(chance, shelves)

    def test_shelves_made_otherwise_answer_and_go_on_alike(self):
        for seed in range(8):
            chance = Chance(100 + seed)
            texts = [str(term(chance.text(WORDS, 6, ["A", "B"])).normal()) for _ in range(20)]
            rows = [(text, "one") for text in dict.fromkeys(texts)]
            for kind in KINDS:
                shelves = [shelf_of(kind, [f"{text} : {note}" for text, note in rows])]
                shelves.append(shelf_of(kind, [f"{text} : {note}" for text, note in rows[::-1]]))
                shelves += [shelf_read(shelf_text(shelves[0])), shelves[0].copied(),
                            joined([shelf_of(KINDS[seed % 3], [" : ".join(row)]) for row in rows[:12]]
                                   if len(rows) < 13 else [shelves[1]], kind=WORD_OF[kind])]
                back = shelves[0].copied()
                back.put(term("f f A B f A B"), "more")
                back.take(term("f f A B f A B"), "more")
                shelves.append(back)
                for number in range(6):
                    way, ask = chance.one_of(WAYS), term(chance.text(WORDS, 6, ["A", "B"]))
                    self.alike([outcome(shelf.ask, way, ask) for shelf in shelves])
                    self.alike([outcome(shelf.walk, way, ask) for shelf in shelves])
                    self.alike([shelf_text(shelf) for shelf in shelves])
                    made, note = term(chance.text(WORDS, 4, ["A", "B"])), chance.one_of(["one", "two"])
                    word = chance.one_of(["put", "take"])
                    self.alike([outcome(getattr(shelf, word), made, note) for shelf in shelves])

    def test_rules_by_all_kinds(self):
        for seed in range(10):
            chance = Chance(200 + seed)
            texts = [text for text in drawn_rules(chance, WORDS, 12) if text is not None]
            kinds = [Rules(WORDS, by=by) for by in BYS]
            for number in range(30):
                one = rule(chance.one_of(texts))
                word = chance.one_of(["put", "put", "drop", "put_all"])
                handed = {"put": one, "drop": number, "put_all": [one, rule(chance.one_of(texts))]}[word]
                self.alike([outcome(getattr(rules, word), handed) for rules in kinds])
                self.alike([(str(rules), rules.log(), len(rules), shown(rules.rules())) for rules in kinds])
                ask = term(chance.text(WORDS, 8, ["A", "B"]))
                self.alike([outcome(steps_of, rules, ask) for rules in kinds])
                self.alike([outcome(rewritten, rules, ask, most=20) for rules in kinds]
                           + [outcome(plain_rewritten, kinds[0].rules(), ask, most=20)])
                self.alike([outcome(normal_of, rules, ask) for rules in kinds])
                if number % 10 == 9:
                    self.alike([outcome(meetings, rules) for rules in kinds]
                               + [outcome(plain_meetings, kinds[0].rules())])
                    for row in meetings(kinds[0])[:5]:
                        self.alike([outcome(joins, rules, row) for rules in kinds])
                    self.assertEqual([kinds[0], kinds[1]], [kinds[2], kinds[0]])


def called(text):
    """A text with the other names of words and letters."""
    return " ".join([NAMES.get(sign, LETTERS.get(sign, sign)) for sign in text.split(" ")])


def called_again(thing):
    """What is told, with the other names in the texts of it."""
    if isinstance(thing, (list, tuple)):
        return type(thing)([called_again(part) for part in thing])
    if not isinstance(thing, str):
        return thing
    return "; ".join([called(part) for part in thing.split("; ")])


class OtherNames(Case):
    def told(self, words, call, seed):
        """Much that is told of terms by chance, whose texts are called otherwise by a function."""
        chance = Chance(seed)

        def drawn(most, letters=("A", "B", "C")):
            return term(call(chance.text(WORDS, most, letters)), words)

        terms = [drawn(6) for _ in range(8)]
        told = [shown([[one, one.normal(), one.rank(), one.spots(), one.deep()] for one in terms])]
        told.append(shown(in_order(terms)))
        for one, other in zip(terms, terms[1:]):
            told.append(shown([matched(one, other), meeting(one, other), why_apart(one, other), why_unlike(one, other),
                               why_no_variant(one, other), ahead(one, other), variants(one, other)]))
        told.extend(self.told_by_shelves(words, terms, drawn))
        texts = [text for text in drawn_rules(chance, WORDS, 4) if text is not None]
        rules = rules_of(BYS[seed % 3], [" -> ".join([call(side) for side in text.split(" -> ")]) for text in texts],
                         words)
        told.append(shown([steps_of(rules, terms[0]), rewritten(rules, terms[1], most=5), meetings(rules)[:20]]))
        told.append(shown([covers(words, terms[:2], terms[2:5]), no_cover(words, terms[:2], terms[2:5]),
                           uncovered(words, [terms[:1], terms[1:3], terms[3:4], []])]))
        return told

    def told_by_shelves(self, words, terms, drawn):
        told = []
        for kind in KINDS:
            shelf = kind(words)
            for one, note in zip(terms, "stuvstuv"):
                outcome(shelf.put, one, note)
            for way in WAYS:
                ask = drawn(4)
                told.append(shown([shelf.ask(way, ask), shelf.barred(way, ask), shelf.steps(way, ask)]))
                told.append(shown(shelf.walk(way, ask)))
            rows = shelf_text(shelf).split("\n")
            told.append([row.split(" : ")[0] for row in rows[2:]])
            told.append([(root, len(part)) for root, part in cut(shelf).items()])
        return told

    def test_all_is_told_likewise(self):
        for seed in range(40):
            told = self.told(WORDS, lambda text: text, seed)
            self.assertEqual(called_again(told), self.told(CALLED, called, seed))

    def test_lines(self):
        lines = ["shelf a signs 40", "put a s f A B", "put a t g c", "put a u f C C", "together a put v c / take t g c",
                 "ask a meets f B B", "shown a above f c c", "text a", "barred a instances f A B", "cut a",
                 "meet f A A / f g B C", "notes a f C C", "hand h a instances A", "rest h", "join b plain a",
                 "unlike a b"]
        one, other = Desk(WORDS), Desk(CALLED)
        for line in lines:
            told = one.say(line)
            again = [" | ".join([called_again(part) for part in text.split(" | ")]) for text in told]
            self.assertEqual(again, other.say(called(line)))


class ByNames(Case):
    """Each function called by its arguments' names, in another order than by places."""

    def same(self, ask, *things, **named):
        by_names = list(named.items()) + list(zip(inspect.signature(ask).parameters, things))[::-1]
        self.assertEqual(outcome(ask, *things, **named), outcome(ask, **dict(by_names)))
        return ask(*things, **named)

    def test_of_terms(self):
        one, other = term("f A B"), term("f c A")
        for ask, things in [
                (is_whole, (3, 1, 4)), (is_name, ("a",)), (is_letter, ("A",)), (is_spot, ((0,),)),
                (letter_rank, ("A",)),
                (normal_letter, (3,)), (words_in, ("a b",)), (rows_in, ("a\nb",)), (term_of, (WORDS, "f A c")),
                (ahead, (one, other)), (variants, (one, other)), (meeting, (one, other)), (why_apart, (one, other)),
                (shows_meeting, (one, other) + meeting(one, other)), (shows_apart, (one, term("c"), None)),
                (first_wrong, (one, other, [None])), (why_unlike, (other, one)), (why_no_variant, (one, other)),
                (shows_unlike, (other, one, ("unlike", (0,)))), (why_not, ("above", one, other)),
                (shows_no_variant, (one, other, why_no_variant(one, other))),
                (shows_not, ("above", one, other, ("unlike", (0,)))),
                (answer_of, ("meets", one, other.normal(), ["a"])),
                (is_pattern, (WORDS, ["f", "?", "c"])), (fits, (["f", "?", "c"], other)),
                (common_part, ([one, other],)),
                (filled, (WORDS, ["f", "?", "c"], [["g", "?"]])), (bar_of, (WORDS, ["f", "?", "c"], "above", other)),
                (shows_bar, (WORDS, ["f", "?", "c"], "above", other, ("sign", (1,)))),
                (root_of, (one,)), (is_line, ("hands",)),
                (covers, (WORDS, [one], [other])), (no_cover, (WORDS, [other], [one])),
                (shows_cover, (WORDS, [one], [other], putting({"A": "c", "B": "A"}), [0])),
                (shows_no_cover, (WORDS, [other], [one], [None])), (uncovered, (WORDS, [[one], [other]]))]:
            self.same(ask, *things)
        self.same(number_in, "7", high=8, low=2)
        self.same(in_order, [one, other], falling=True)
        self.same(matched, one, other, within=putting({"A": "c"}))
        self.assertEqual(Term(most=5, signs=["f", "A", "B"], words=WORDS), one)
        self.assertEqual(Putting(pairs={"A": one}, words=WORDS), Putting(WORDS, {"A": one}))
        self.assertEqual(Words(rows=[("c", 0)]), Words([("c", 0)]))
        self.assertEqual(one.with_part(term=other, spot=(0,)), one.with_part((0,), other))

    def test_of_shelves_and_trees(self):
        one, other = term("f A B"), term("f c A")
        for kind in KINDS:
            shelf = kind(most=3, words=WORDS)
            shelf.put(note="a", term=one)
            shelf.put(note="b", term=one)
            shelf.take(note="a", term=one)
            shelf.put(note="c", term=other)
            self.assertEqual(shelf_text(shelf=shelf), f"shelf {WORD_OF[kind]} 3\nwords f 2 g 1 c 0\n"
                                                      "term f N0 N1 : b\nterm f c N0 : c")
            self.assertEqual(shelf.ask(limit=1, term=one, way="meets"), shelf.ask("meets", one, limit=1))
            for ask in (shelf.barred, shelf.walk, shelf.steps, shelf.candidates, shelf.need_ask):
                self.assertEqual(shown(ask(term=other, way="above")), shown(ask("above", other)))
            self.assertEqual([shelf.has(term=one), shelf.notes(term=one)], [True, ["b"]])
            self.assertEqual(Handing(steady=False, term=one, way="meets", shelf=shelf).left(), 2)
            self.assertEqual(shown(teller(limit=1, way="meets", shelf=shelf)(one)), shown(shelf.ask("meets", one)[:1]))
            ask = ("none", ("one", "above", one))
            for function, things in [(told_by, (shelf, ask)), (why_told, (shelf, one, ask)), (cut, (shelf,)),
                                     (roots_for, (cut(shelf), "meets", one)), (unlike_terms, (shelf, kind(WORDS)))]:
                self.same(function, *things)
            self.same(asked_of, cut(shelf), "meets", one, limit=1)
            self.same(joined, [shelf], most=2, kind="signs")
            self.assertEqual(shelf_read(text=shelf_text(shelf)), shelf)
        self.same(pushed, ("none", ("one", "above", one)))
        tree = SignTree(terms=[one, other], words=WORDS)
        self.assertEqual(tree.walk(term=one, way="meets"), tree.walk("meets", one))
        self.assertEqual(tree.ends(term=one, way="meets"), tree.ends("meets", one))
        node = PutNode(terms=[one, other])
        self.assertEqual([node.fills(number=0), node.node_at(path=(1,))], [node.fills(0), node.node_at((1,))])

    def test_of_rules_and_desks(self):
        made = Rule(right=term("A"), left=term("g A"))
        self.assertEqual(made.rewritten_at(spot=(), term=term("g c")), term("c"))
        for by in BYS:
            rules = Rules(by=by, words=WORDS)
            self.assertEqual([rules.put(rule=made), rules.put_all(rules=[rule("g g A -> A")])], [0, [1]])
            ask = term("g g g c")
            for function, named in [(steps_of, {"only": [1]}), (first_step, {"only": [1]}),
                                    (rewritten, {"only": [1], "most": 3}), (normal_of, {"most": 7})]:
                self.same(function, rules, ask, **named)
            self.same(shows_rows, rules, ask, rewritten(rules, ask)[1])
            self.same(plain_rewritten, rules.rules(), ask, most=1)
            row = self.same(meetings, rules)[0]
            self.same(plain_meetings, rules.rules())
            self.same(shows_met, rules, row)
            self.same(joins, rules, row, most=9)
            rules.drop(number=0)
            self.assertEqual(rules.rule_of(number=1), rule("g g A -> A"))
        desk = Desk(most=2, words=WORDS)
        self.assertEqual([desk.say(line="shelf a plain 4"), desk.say_all(lines=["terms a"])], [[], [[]]])
        self.assertEqual(len(desk.shelf(name="a")), 0)


if __name__ == "__main__":
    unittest.main()
