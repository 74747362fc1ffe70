"""A desk and its answers: points 121 and 123 to 126."""

import itertools
import unittest

from termshelf import errors
from termshelf.desk import Desk
from termshelf.signs import Words
from tests.plaindesk import Plain
from tests.samples import LIKE, OTHER, WAYS, WORDS
from tests.samples import Case, Chance, any_things, marked, shelf_of, term, things_but
from tests.test_cutting import KIND_OF, kept

FILL = ["put a z A", "put a one f A B", "put a two f A B", "put a a f A A", "put a b f c A", "put a one c"]


def desk_of(lines, words=WORDS, most=6):
    desk = Desk(words, most=most)
    for line in lines:
        desk.say(line)
    return desk


def filled(word, most=40):
    return desk_of([f"shelf a {word} {most}"] + FILL)


class Looks(Case):
    def told(self, desk, line, *texts):
        answer = desk.say(line)
        self.assertIs(type(answer), list)
        self.assertEqual(answer, list(texts))
        self.assertEqual([text for text in answer if type(text) is not str], [])

    def refuses(self, desk, line, error, field="found", value=None):
        """Refused, and nothing changed but perhaps a shelf's log."""
        before = [[(name, kept(desk.shelf(name))) for name in desk.names()], desk.hands(), desk.done(), desk.log()]
        with self.assertRaises(error) as caught:
            desk.say(line)
        self.assertIs(type(caught.exception), error)
        told = getattr(caught.exception, field) if field else None
        self.assertEqual((type(told), str(told)), (type(value), str(value)))
        self.assertEqual([[(name, kept(desk.shelf(name))) for name in desk.names()], desk.hands(), desk.done(),
                          desk.log()], before)
        self.assertIs(desk.busy(), False)


class Answered(Looks):
    def test_shelves(self):
        desk = Desk(words=LIKE)
        self.told(desk, "shelves")
        for name, word, most in [("b", "signs", 3), ("a", "plain", 40), ("shelf", "puttings", 1)]:
            self.told(desk, f"shelf {name} {word} {most}")
            self.assertEqual([type(desk.shelf(name)), desk.shelf(name).most()], [KIND_OF[word], most])
        self.told(desk, "put shelf one f A B")
        self.told(desk, "shelves", "b signs 0", "a plain 0", "shelf puttings 1")
        self.told(desk, "drop a")
        self.told(desk, "copy shelf a")
        self.told(desk, "shelves", "b signs 0", "shelf puttings 1", "a puttings 1")
        self.told(desk, "changes a", "0")
        self.told(desk, "log a")
        self.told(desk, "put shelf two f C D")
        self.assertEqual([kept(desk.shelf(name)) for name in desk.names()],
                         [[], [("f N0 N1", ["one", "two"])], [("f N0 N1", ["one"])]])
        self.refuses(desk, "put a one g A", errors.TooMany, "many", 2)

    def test_puts_and_takes(self):
        for word in KIND_OF:
            desk = filled(word)
            self.told(desk, "terms a", "N0", "f N0 N0", "f N0 N1", "f c N0", "c")
            self.told(desk, "notes a f X Y", "one", "two")
            self.told(desk, "take a one f B A")
            self.told(desk, "take a a f B B")
            self.told(desk, "terms a", "N0", "f N0 N1", "f c N0", "c")
            self.told(desk, "notes a f X Y", "two")
            self.told(desk, "changes a", "8")
            self.told(desk, "log a", *["put"] * 6, "take", "take")

    def test_deeds_done_together(self):
        for word in KIND_OF:
            desk = filled(word)
            self.told(desk, "together a put x g A / take z B / take one f A B", "3")
            self.told(desk, "together a take x g A", "1")
            self.told(desk, "terms a", "f N0 N0", "f N0 N1", "f c N0", "c")
            before = desk.say("log a")
            self.assertEqual(before[6:], ["begin", "put", "take", "take", "end", "begin", "take", "end"])
            self.refuses(desk, "together a put x g A / put one c / put y c", errors.Twice, "found", "one")
            self.told(desk, "log a", *before, "begin", "put", "back", "end")
            # Of which all terms are read ahead of all deeds.
            self.refuses(desk, "together a put x g A / put one c / put y d", errors.NoSign, "at", 0)
            self.refuses(desk, "together a take q c / put y f c", errors.Unended, "many", 1)
            self.told(desk, "log a", *before, "begin", "put", "back", "end")
            self.told(desk, "changes a", "10")

    def test_asks(self):
        for word in KIND_OF:
            desk = filled(word)
            self.told(desk, "ask a meets f A A", "N0 : z", "f N0 N0 : a", "f N0 N1 : one two", "f c N0 : b")
            self.told(desk, "ask a variants f B C", "f N0 N1 : one two")
            self.told(desk, "ask a instances g A")
            self.told(desk, "first 2 a instances A", "N0 : z", "f N0 N0 : a")
            self.told(desk, "first 40 a above f c g c", "N0 : z", "f N0 N1 : one two", "f c N0 : b")
            self.told(desk, "shown a meets f A g B", "A = N0; B = N1 | N0 = f N0 g N1 | f N0 g N1",
                      "A = g N0; B = N0 | N0 = g N0 | f g N0 g N0", "A = N0; B = N1 | N0 = N0; N1 = g N1 | f N0 g N1",
                      "A = c; B = N0 | N0 = g N0 | f c g N0")
            self.told(desk, "shown a variants c", " |  | c")
            self.told(desk, "shown a instances f B A", "A = N0; B = N0 | N0 = N0 | f N0 N0",
                      "A = N1; B = N0 | N0 = N0; N1 = N1 | f N0 N1", "A = N0; B = c | N0 = N0 | f c N0")
            self.told(desk, "barred a instances f A B", "N0", "c")
            self.told(desk, "barred a variants g A", "N0", "f N0 N0", "f N0 N1", "f c N0", "c")
            self.told(desk, "barred a instances A")
            shelf = shelf_of(KIND_OF[word], ["A : z", "f A B : a", "f A A : a", "f c A : b", "c : one"])
            for way, text in itertools.product(WAYS, ["A", "c", "f A A"]):
                self.told(desk, f"steps a {way} {text}", str(shelf.steps(way, term(text))))

    def test_meetings(self):
        desk = Desk(WORDS)
        self.told(desk, "meet f A A / f B g C", "f g N0 g N0", "A = g N0", "B = g N0; C = N0")
        self.told(desk, "meet c / c", "c", "", "")
        self.told(desk, "meet A / c", "c", "A = c", "")
        self.told(desk, "meet f A A / f B g B")
        self.told(desk, "meet c / g A")
        wide = "f A " * 8 + "A"
        self.refuses(desk, f"meet {wide} / c", errors.TooGreat, "many", 17)
        self.refuses(desk, f"meet c / {wide}", errors.TooGreat, "many", 17)
        self.refuses(desk, f"meet {wide} / d", errors.NoSign, "at", 0)

    def test_handings(self):
        for word in KIND_OF:
            desk = filled(word)
            self.told(desk, "hands")
            self.told(desk, "hand b a meets f A A")
            self.told(desk, "loose a a meets f A A")
            self.told(desk, "left b", "4")
            self.told(desk, "more b", "N0 : z")
            self.told(desk, "more a", "N0 : z")
            self.told(desk, "more a", "f N0 N0 : a")
            self.told(desk, "hands", "b 1", "a 2")
            self.told(desk, "put a new g A")
            for line in ("more a", "left a", "rest a"):
                self.refuses(desk, line, errors.Changed, "many", 1)
            self.told(desk, "rest b", "f N0 N0 : a", "f N0 N1 : one two", "f c N0 : b")
            self.told(desk, "rest b")
            self.told(desk, "left b", "0")
            self.refuses(desk, "more b", errors.NoMore, "", None)
            self.told(desk, "anew a")
            self.told(desk, "anew b")
            self.told(desk, "hands", "b 0", "a 0")
            self.told(desk, "take a z A")
            self.told(desk, "left b", "4")
            self.refuses(desk, "left a", errors.Changed, "many", 1)
            self.assertEqual(desk.hands(), ["b", "a"])

    def test_handings_stay_when_their_shelf_is_dropped(self):
        desk = filled("signs")
        desk.say_all(["hand b a instances A", "loose c a instances A", "drop a", "shelf a plain 40"])
        self.told(desk, "more b", "N0 : z")
        self.told(desk, "left c", "5")
        self.told(desk, "put a x g A")
        self.told(desk, "left c", "5")
        self.told(desk, "anew c")
        self.told(desk, "rest c", "N0 : z", "f N0 N0 : a", "f N0 N1 : one two", "f c N0 : b", "c : one")
        self.told(desk, "hands", "b 1", "c 5")

    def test_whole_texts(self):
        for word in KIND_OF:
            desk = filled(word, 9)
            rows = [f"shelf {word} 9", "words f 2 g 1 c 0", "term N0 : z", "term f N0 N0 : a", "term f N0 N1 : one two",
                    "term f c N0 : b", "term c : one"]
            self.told(desk, "text a", *rows)
            self.told(desk, "read b " + " / ".join(rows))
            self.told(desk, "shelves", f"a {word} 5", f"b {word} 5")
            self.assertEqual(kept(desk.shelf("b")), kept(desk.shelf("a")))
            self.told(desk, "changes b", "0")
            self.told(desk, "log b")
            self.told(desk, "text b", *rows)
            self.told(desk, "read c shelf signs 1 / words f 2 g 1 c 0")
            self.told(desk, "text c", "shelf signs 1", "words f 2 g 1 c 0")

    def test_whole_texts_that_are_refused(self):
        desk = filled("plain")
        good = "shelf plain 2 / words f 2 g 1 c 0"
        for behind, row in [("", 0), (" x", 0), (" /", 0), (" / /", 0), (" shelf plain 2", 1), (" shelf plain 2 /", 1),
                            (" " + good + " /", 2), (f" {good} / /", 2), (f" {good} / term c : one / ", 3),
                            (f" {good} / term d : one", 2), (f" / {good}", 0), (" shelf plain 2 / / words c 0", 1)]:
            self.refuses(desk, f"read b{behind.rstrip(' ')}", errors.NoText, "row", row)
        self.refuses(desk, f"read b {good} / term c : one / term c : one", errors.Twice, "found", "one")
        self.refuses(desk, f"read b {good} / term c : one / term A : one / term g A : one", errors.TooMany, "many", 3)
        self.refuses(desk, "read b shelf plain 2 / words f 2 / term f A B : x / term f A A : x",
                     errors.Unlike, "found", "shelf plain 2\nwords f 2\nterm f A B : x\nterm f A A : x")
        self.refuses(desk, "read b shelf plain 2 / words g 1 f 2 c 0", errors.Unlike, "found",
                     "shelf plain 2\nwords g 1 f 2 c 0")
        self.refuses(desk, "read a x", errors.Twice, "found", "a")

    def test_cut_and_joined(self):
        for word, kind in KIND_OF.items():
            desk = filled(word)
            self.told(desk, "cut a", "N0 1", "f 3", "c 1")
            desk.say_all(["shelf b plain 40", "put b two c", "put b x f B B"])
            self.told(desk, "cut b", "f 1", "c 1")
            self.told(desk, f"join c {word} b a b")
            self.assertEqual([type(desk.shelf("c")), desk.shelf("c").most()], [kind, 40])
            self.told(desk, "text c", f"shelf {word} 40", "words f 2 g 1 c 0", "term N0 : z", "term f N0 N0 : x a",
                      "term f N0 N1 : one two", "term f c N0 : b", "term c : two one")
            self.told(desk, f"join d {word} a a a a a a")
            self.told(desk, "unlike a d")
            self.told(desk, "unlike a b", "N0 : z | -", "f N0 N0 : a | x", "f N0 N1 : one two | -", "f c N0 : b | -",
                      "c : one | two")
            self.told(desk, "unlike b c", "N0 : - | z", "f N0 N0 : x | x a", "f N0 N1 : - | one two", "f c N0 : - | b",
                      "c : two | two one")
            self.told(desk, "shelf e plain 1")
            self.told(desk, "cut e")
            self.refuses(desk, f"join f {word} a f", errors.NotThere, "found", "f")
            self.refuses(desk, "join a plain x", errors.Twice, "found", "a")

    def test_joined_shelves_that_are_too_many(self):
        desk = Desk(WORDS)
        desk.say_all(["shelf a plain 40", "shelf b signs 40"])
        for number in range(24):
            desk.say(f"put a x {'g ' * (number % 12)}{['c', 'f A A'][number // 12]}")
            desk.say(f"put b x {'g ' * (number % 12)}{['c', 'f A B'][number // 12]}")
        desk.say_all([f"put {name} {sign} A" for name, sign in zip("aaaabbbb", "abcdefgh")])
        self.told(desk, "join c puttings a b a")
        self.assertEqual(len(desk.shelf("c")), 37)
        desk.say("put b i A")
        self.refuses(desk, "join d plain a b", errors.TooMany, "many", 9)
        desk.say_all(["take b i A", "put a x f c c", "put a x f c A", "put b x f g c c"])
        self.told(desk, "join d plain a b")
        desk.say("put a x f c g c")
        self.refuses(desk, "join e plain a b", errors.TooMany, "many", 41)
        self.refuses(desk, "join e plain d a", errors.TooMany, "many", 41)


class Refused(Looks):
    def test_what_is_no_line(self):
        desk = filled("plain")
        for thing in any_things() + ["", "shelves ", "terms A", "ask a meets", "put a one c " + "A" * 400, "log"]:
            before = marked(thing)
            self.found(errors.NoLine, thing, desk.say, thing)
            self.assertEqual(marked(thing), before)
        self.assertEqual(desk.done(), 7)

    def test_names_from_the_left(self):
        desk = desk_of(["shelf a plain 40", "shelf b signs 40", "hand h a meets A"])
        for line, error, name in [
                ("shelf a plain 1", errors.Twice, "a"), ("copy c a", errors.NotThere, "c"),
                ("copy a b", errors.Twice, "b"),
                ("copy c c", errors.NotThere, "c"), ("copy a a", errors.Twice, "a"), ("drop h", errors.NotThere, "h"),
                ("put c one d", errors.NotThere, "c"), ("take c one d", errors.NotThere, "c"),
                ("together c put one d", errors.NotThere, "c"), ("terms h", errors.NotThere, "h"),
                ("notes c d", errors.NotThere, "c"), ("changes c", errors.NotThere, "c"),
                ("log c", errors.NotThere, "c"),
                ("ask c meets d", errors.NotThere, "c"), ("first 1 c meets d", errors.NotThere, "c"),
                ("shown c meets d", errors.NotThere, "c"), ("steps c meets d", errors.NotThere, "c"),
                ("barred c meets d", errors.NotThere, "c"), ("hand h c meets d", errors.Twice, "h"),
                ("hand i c meets d", errors.NotThere, "c"), ("loose h c meets d", errors.Twice, "h"),
                ("loose a h meets d", errors.NotThere, "h"), ("more a", errors.NotThere, "a"),
                ("left a", errors.NotThere, "a"), ("rest i", errors.NotThere, "i"), ("anew i", errors.NotThere, "i"),
                ("text h", errors.NotThere, "h"), ("read b", errors.Twice, "b"), ("cut c", errors.NotThere, "c"),
                ("join a plain c", errors.Twice, "a"), ("join c plain a d e", errors.NotThere, "d"),
                ("join c plain c", errors.NotThere, "c"), ("unlike c d", errors.NotThere, "c"),
                ("unlike a d", errors.NotThere, "d")]:
            self.refuses(desk, line, error, "found", name)

    def test_as_many_as_may_be_kept(self):
        for most in range(1, 7):
            desk = desk_of([f"shelf {name} plain 1" for name in "abcdef"[:most]], most=most)
            for line in ("shelf z plain 1", "copy a z", "read z", "read z x", "join z plain a"):
                self.refuses(desk, line, errors.TooMany, "many", most + 1)
            self.refuses(desk, "copy z a", errors.NotThere, "found", "z")
            self.refuses(desk, "copy a a", errors.Twice, "found", "a")
            self.refuses(desk, "shelf a plain 1", errors.Twice, "found", "a")
            self.refuses(desk, "read a x", errors.Twice, "found", "a")
            self.refuses(desk, "join z plain y", errors.NotThere, "found", "y")
            desk.say("drop a")
            self.told(desk, "shelf z puttings 1")
            self.refuses(desk, "shelf y plain 1", errors.TooMany, "many", most + 1)

    def test_a_seventh_handing(self):
        desk = desk_of(["shelf a plain 40"] + [f"{word} {hand} a meets A" for word, hand in
                                                zip(["hand", "loose"] * 3, "ghijkl")])
        for word in ("hand", "loose"):
            self.refuses(desk, f"{word} m a meets d", errors.TooMany, "many", 7)
            self.refuses(desk, f"{word} l a meets d", errors.Twice, "found", "l")
            self.refuses(desk, f"{word} m b meets d", errors.NotThere, "found", "b")
        self.assertEqual(desk.hands(), list("ghijkl"))

    def test_terms_from_the_left(self):
        desk = desk_of(["shelf a plain 1", "put a one c"])
        long = " ".join(["A"] * 101)
        for ahead in ("put a two", "take a two", "notes a", "ask a meets", "first 1 a above", "shown a variants",
                      "steps a instances", "barred a meets", "hand h a meets", "loose h a meets", "meet c /",
                      "together a put two", "together a put x f A B / put two"):
            self.refuses(desk, f"{ahead} f A", errors.Unended, "many", 1)
            self.refuses(desk, f"{ahead} c c", errors.Beyond, "at", 1)
            self.refuses(desk, f"{ahead} f A d", errors.NoSign, "at", 2)
            self.refuses(desk, f"{ahead} {long}", errors.NoSigns, "found", long)
        self.refuses(desk, f"meet {long} / f", errors.NoSigns, "found", long)
        self.refuses(desk, "meet f / d", errors.Unended, "many", 2)
        self.refuses(desk, "together a put x f / put y d", errors.Unended, "many", 2)

    def test_then_as_the_functions_refuse(self):
        wide = "f A " * 8 + "A"
        for word in KIND_OF:
            desk = desk_of([f"shelf a {word} 1", "put a one c", "hand h a meets A"])
            for ahead in ("put a one", "ask a meets", "first 1 a above", "shown a variants", "steps a instances",
                          "barred a meets", "hand i a meets", "loose i a meets", "together a put x"):
                self.refuses(desk, f"{ahead} {wide}", errors.TooGreat, "many", 17)
            self.refuses(desk, "put a one c", errors.Twice, "found", "one")
            self.refuses(desk, "put a one A", errors.TooMany, "many", 2)
            self.refuses(desk, "take a two c", errors.NotThere, "found", "two")
            for line in ("take a one A", "notes a A"):
                self.refuses(desk, line, errors.NotThere, "found", term("A"))
            desk.say_all([f"put a {note} c" for note in "bcdefgh"])
            self.refuses(desk, "put a i c", errors.TooMany, "many", 9)
            self.told(desk, "log a", "put", "begin", "back", "end", *["put"] * 7)


class Made(Case):
    def test_without_shelves(self):
        desk = Desk(WORDS)
        self.assertEqual([desk.names(), desk.hands(), desk.busy(), desk.done(), desk.log()], [[], [], False, 0, []])
        self.assertIs(desk.busy(), False)
        for most in range(1, 7):
            self.assertEqual(Desk(words=LIKE, most=most).names(), [])

    def test_refusals(self):
        for thing in things_but(Words):
            self.found(errors.NoWords, thing, Desk, thing)
            self.found(errors.NoWords, thing, Desk, thing, most=0)
        for thing in things_but(int) + [True, False, 0, 7, -1, 10 ** 30 - 1]:
            self.found(errors.NoNumber, thing, Desk, WORDS, most=thing)

    def test_desks_beside_one_another(self):
        one, other = filled("plain"), filled("plain")
        one.say_all(["drop a", "shelf b signs 3"])
        self.assertEqual([one.names(), other.names(), len(other.shelf("a"))], [["b"], ["a"], 5])
        unlike = Desk(OTHER)
        unlike.say_all(["shelf a plain 40", "put a one f A B"])
        self.assertEqual(unlike.say("text a"), ["shelf plain 40", "words g 1 f 2 c 0", "term f N0 N1 : one"])
        self.assertEqual(unlike.done(), 3)


class Told(Case):
    def test_what_a_desk_tells_is_the_askers_own(self):
        desk = filled("puttings")
        desk.say("hand h a meets A")
        for told in (desk.names(), desk.hands(), desk.log(), desk.say("terms a"), desk.say("log a"),
                     desk.say("notes a c"), desk.say("shelves"), desk.say("text a"), desk.say("hands")):
            told.append("x")
        for told in desk.say_all(["terms a", "notes a c"]):
            told.clear()
        self.assertEqual([desk.names(), desk.hands(), desk.say("notes a c")], [["a"], ["h"], ["one"]])
        shelf = desk.shelf(name="a")
        self.assertEqual([type(shelf), shelf.changes(), shelf.log(), len(shelf)], [KIND_OF["puttings"], 0, [], 5])
        shelf.put(term("g A"), "new")
        shelf.take(term("c"), "one")
        self.assertEqual(desk.say("terms a"), ["N0", "f N0 N0", "f N0 N1", "f c N0", "c"])
        self.assertEqual([desk.say("changes a"), len(desk.shelf("a"))], [["6"], 5])
        later = desk.shelf("a")
        desk.say("put a new g A")
        self.assertEqual([len(later), len(desk.shelf("a"))], [5, 6])

    def test_shelves_that_are_not_kept(self):
        desk = filled("plain")
        desk.say("hand h a meets A")
        for thing in any_things() + ["b", "h", "A", "a "]:
            self.found(errors.NotThere, thing, desk.shelf, thing)
        desk.say("drop a")
        self.found(errors.NotThere, "a", desk.shelf, "a")

    def test_lines_done_and_the_log(self):
        desk = filled("signs")
        words = ["shelf"] + ["put"] * 6
        self.assertEqual([desk.done(), desk.log()], [7, words])
        for bad in ("x", None, "drop b", "put a one c", "read a"):
            with self.assertRaises((errors.TermError, errors.Absent)):
                desk.say(bad)
        self.assertEqual([desk.done(), desk.log()], [7, words])
        desk.say_all(["terms a", "hands"])
        desk.say_all([])
        desk.say(line="drop a")
        words += ["open", "terms", "hands", "close", "open", "close", "drop"]
        self.assertEqual([desk.done(), desk.log()], [10, words])


class Together(Case):
    def test_answers_line_by_line(self):
        for word in KIND_OF:
            desk = Desk(WORDS)
            lines = [f"shelf a {word} 40"] + FILL + ["terms a", "notes a f A B", "hands", "first 1 a meets A"]
            told = desk.say_all(lines=tuple(lines))
            self.assertEqual(told, [[]] * 7 + [["N0", "f N0 N0", "f N0 N1", "f c N0", "c"], ["one", "two"], [],
                                               ["N0 : z"]])
            self.assertIs(type(told), list)
            told[0].append("x")
            self.assertEqual(told[1], [])
            self.assertEqual([len(lines), desk.done(), desk.busy()], [11, 11, False])

    def test_a_line_that_is_refused(self):
        for word, ahead in itertools.product(KIND_OF, range(4)):
            desk = filled(word)
            lines = ["put a x g A", "hand h a meets A", "more h"][:ahead]
            for bad, error, field, value in [("x", errors.NoLine, "found", "x"), (None, errors.NoLine, "found", None),
                                             ("drop b", errors.NotThere, None, None),
                                             ("put a one d", errors.NoSign, "at", 0)]:
                desk = filled(word)
                with self.assertRaises(error) as caught:
                    desk.say_all(lines + [bad, "drop a", None])
                self.assertIs(type(caught.exception), error)
                if field is not None:
                    self.assertEqual(getattr(caught.exception, field), value)
                self.assertIs(desk.busy(), False)
                self.assertEqual(desk.log()[7:], ["open"] + [line.split(" ")[0] for line in lines] + ["close"])
                self.assertEqual([desk.done(), desk.names()], [7 + ahead, ["a"]])
                self.assertEqual(len(desk.shelf("a")), 5 + (ahead > 0))
                self.assertEqual(desk.say_all(["changes a"]), [[str(6 + (ahead > 0))]])

    def test_a_desk_is_busy_while_lines_are_said_together(self):
        seen = []

        class Looking(list):
            """Lines that look at the desk whenever one of them is asked for."""

            def __iter__(self):
                for line in list.__iter__(self):
                    seen.append(desk.busy())
                    yield line

        desk = filled("plain")
        desk.say_all(Looking(["terms a", "hands"]))
        self.assertEqual([seen, desk.busy()], [[True, True], False])

    def test_no_list(self):
        desk = filled("plain")
        before = marked(desk)
        for thing in things_but(list, tuple) + [["hands"] * 101, ("x",) * 101, "hands"]:
            self.found(errors.NoList, thing, desk.say_all, thing)
        self.assertEqual(marked(desk), before)

    def test_a_hundred(self):
        desk = Desk(WORDS)
        lines = ["shelf a puttings 40"] + [f"put a x {'g ' * (number % 13)}{['c', 'A', 'f A B'][number // 13]}"
                                           for number in range(39)]
        lines += [f"ask a {way} f A B" for way in WAYS * 15]
        self.assertEqual(len(lines), 100)
        self.assertEqual(len(desk.say_all(lines)), 100)
        self.assertEqual([len(desk.shelf("a")), desk.done(), len(desk.log())], [39, 100, 102])


def drawn_line(chance, shelves, hands):
    """A line by chance, mostly a good one."""
    name, other, hand = chance.one_of(shelves), chance.one_of(shelves), chance.one_of(hands)
    kind, way, note = chance.one_of(list(KIND_OF)), chance.one_of(WAYS), chance.one_of("abc")
    text = chance.text(WORDS, 5, ["A", "B"]) if chance.one_of(range(12)) else chance.one_of(["f A", "d", "c c", "/"])
    deeds = " / ".join([f"{chance.one_of(['put', 'put', 'take'])} {chance.one_of('abcd')} "
                        f"{chance.text(WORDS, 3, ['A', 'B'])}" for _ in range(chance.one_of([1, 2, 3]))])
    rows = f"shelf {kind} {chance.one_of([1, 5])} / words f 2 g 1 c 0 / term {text} : a b / term c : c"
    return chance.one_of([f"put {name} {note} {text}"] * 8 + [
        f"shelf {name} {kind} {chance.one_of([2, 40])}", f"copy {name} {other}", f"drop {name}", "shelves", "hands",
        f"take {name} {note} {text}", f"together {name} {deeds}", f"together {name} {deeds}", f"terms {name}",
        f"notes {name} {text}", f"changes {name}", f"log {name}", f"ask {name} {way} {text}",
        f"first {chance.one_of([1, 2, 41])} {name} {way} {text}", f"shown {name} {way} {text}",
        f"barred {name} {way} {text}",
        f"meet {text} / {chance.text(WORDS, 5, ['A', 'B'])}", f"hand {hand} {name} {way} {text}",
        f"loose {hand} {name} {way} {text}", f"more {hand}", f"more {hand}", f"left {hand}", f"rest {hand}",
        f"anew {hand}",
        f"text {name}", f"read {name} {rows}", f"cut {name}", f"join {name} {kind} {other} {chance.one_of(shelves)}",
        f"unlike {name} {other}", f"steps {name} {way} {text}"])


class Histories(Case):
    """Long rows of lines at a desk beside a plain one, and at desks whose shelves are of other kinds."""

    def heard(self, desk, line):
        """What is told, or the class and the fields of what is refused, as texts."""
        try:
            return desk.say(line)
        except (errors.TermError, errors.Absent, errors.Ended) as refusal:
            return (type(refusal).__name__, str(vars(refusal)))

    def test_beside_a_plain_desk(self):
        seen = set()
        for seed in range(25):
            chance = Chance(seed)
            desk, plain = Desk(WORDS, most=3), Plain(WORDS, 3)
            for _ in range(120):
                line = drawn_line(chance, "aabbcd", "hijklmn")
                told = self.heard(desk, line)
                self.assertEqual(told, self.heard(plain, line), line)
                seen.add(line.split(" ")[0] if isinstance(told, list) else told[0])
            self.assertEqual([desk.names(), desk.hands()], [list(plain.shelves), list(plain.handings)])
            self.assertEqual([desk.log(), desk.done()], [plain.log, plain.done])
            for name in desk.names():
                self.assertEqual(desk.shelf(name), plain.shelves[name])
        # Each form was answered, and each refusal that such lines may have was seen.
        self.assertEqual(len([word for word in seen if word.islower()]), 29)
        self.assertEqual(sorted([word for word in seen if not word.islower()]),
                         sorted("Beyond Changed NoLine NoMore NoSign NoText NotThere TooMany Twice Unended".split()))

    def test_all_kinds_tell_the_same(self):
        for seed in range(10):
            chance = Chance(1000 + seed)
            lines = [drawn_line(chance, "aab", "hi") for _ in range(150)]
            lines = [line for line in lines if not line.startswith("steps")]
            told = []
            for kind in KIND_OF:
                desk = Desk(WORDS)
                told.append([])
                for line in lines:
                    for other in KIND_OF:
                        line = line.replace(other, kind)
                    told[-1].append(str(self.heard(desk, line)).replace(kind, "KIND"))
            self.assertEqual(told[0], told[1])
            self.assertEqual(told[0], told[2])

    def test_shelves_made_by_other_orders_of_lines_go_on_alike(self):
        chance = Chance(7)
        texts = ["A", "f A B", "c", "g A", "f A A", "g c", "f c c"]
        puts = [f"put a {note} {text}" for note, text in zip("abcdefg", texts)]
        for kind in KIND_OF:
            desks = []
            for _ in range(3):
                order = sorted(puts, key=lambda line: chance.one_of(range(1000)))
                desks.append(desk_of([f"shelf a {kind} 40"] + order))
            desks.append(desk_of(["read a " + " / ".join(desks[0].say("text a"))]))
            desks.append(desk_of([f"shelf b {kind} 40"] + [line.replace(" a ", " b ", 1) for line in puts]
                                 + ["copy b a", "drop b"]))
            for line in ["text a", "cut a", "barred a meets f A c", "steps a meets f A c", "steps a above g c",
                         "take a a A", "ask a meets f A A", "put a x f B B", "shown a above f c c", "text a"]:
                told = [desk.say(line) for desk in desks]
                self.assertEqual([answer for answer in told if answer != told[0]], [], line)


if __name__ == "__main__":
    unittest.main()
