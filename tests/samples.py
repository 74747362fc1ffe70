"""Things that many tests hand in, and how they look at refusals and at equality."""

import itertools
import random
import unittest

from termshelf import errors
from termshelf.answers import answer_of
from termshelf.desk import Desk
from termshelf.handing import Handing
from termshelf.puttings import Putting
from termshelf.putshelf import PutShelf
from termshelf.puttree import PutNode
from termshelf.rules import Rule, Rules
from termshelf.shelves import PlainShelf, Shelf
from termshelf.signs import Words
from termshelf.signshelf import SignShelf
from termshelf.signtree import SignTree
from termshelf.terms import Term

ROWS = [("f", 2), ("g", 1), ("c", 0)]
WORDS = Words(ROWS)
LIKE = Words(tuple(ROWS))
OTHER = Words([("g", 1), ("f", 2), ("c", 0)])
LAST = Words([("f", 2), ("g", 1), ("c", 0), ("d", 0)])
ONE = Words([("h", 3)])
WIDE = Words([("t", 4), ("h", 3), ("f", 2), ("g", 1), ("c", 0), ("d", 0)])


def term(text, words=WORDS, most=9999):
    return Term(words, text.split(" "), most=most)


def putting(pairs, words=WORDS):
    """A putting of a dict of texts."""
    return Putting(words, {letter: term(text, words) for letter, text in pairs.items()})


WAYS = ["instances", "above", "meets", "variants"]
KINDS = [PlainShelf, SignShelf, PutShelf]


def shelf_of(kind, rows, words=WORDS, most=40):
    """A shelf with terms and notes: texts like `f A c : one two`."""
    told = kind(words, most=most)
    for row in rows:
        text, notes = row.split(" : ")
        for note in notes.split(" "):
            told.put(term(text, words), note)
    return told


BYS = ["plain", "signs", "puts"]


def rule(text, words=WORDS):
    """A rule of a text like `f A B -> A`."""
    left, right = text.split(" -> ")
    return Rule(term(left, words), term(right, words))


def rules_of(by, texts, words=WORDS):
    """Rules of texts; None stands for a number that is dropped."""
    told = Rules(words, by=by)
    for text in texts:
        number = told.put(rule("g g g g g g g g c -> c" if text is None else text, words))
        if text is None:
            told.drop(number)
    return told


def great_signs(letter, many):
    """So many signs of a term, an odd number, whose parts are halved again and again, so that it isn't deep."""
    if many == 1:
        return [letter]
    left = (many - 1) // 2 - 1 + (many - 1) // 2 % 2
    return ["f"] + great_signs(letter, left) + great_signs(letter, many - 1 - left)


def great(letter, many):
    signs = great_signs(letter, many) if many % 2 == 1 else ["g"] + great_signs(letter, many - 1)
    return Term(WORDS, signs, most=9999)


def nested(many):
    """A list in a list in a list, so many deep."""
    thing = []
    for _ in range(many - 1):
        thing = [thing]
    return thing


def any_things():
    """Some of what is called any thing, made anew, of all kinds."""
    return [
        None, True, False, 0, 1, 2, -1, 3, 99, 100, 9999, 10000, 10 ** 30 - 1, 1 - 10 ** 30,
        "", " ", "f", "g c", "c", "A", "N0", "N100", "word", "wordwords", "\n", "f A\nc", "~" * 1000, "?",
        [], (), {}, [()], ([],), [[]], {"A": None}, {None: 1, True: 2, 0: [3]}, {"A": {"B": ()}},
        ["A"], ("A",), ["f", "A", "c"], [None], [True], (0,), (True,), (0, 0), [0], ("f", 2), [("f", 2)], (("f", 2),),
        ("f", True), ("clash", []), ("ring", [], []), ("unlike", ()), ("over",), ["x"] * 100, ("x",) * 110,
        nested(8), WORDS, OTHER, term("A"), term("f A g c"), term("A", OTHER), putting({}), putting({"A": "c"}),
        putting({}, OTHER), answer_of("meets", term("A"), term("c"), ["one"]), errors.NoTerm(None), errors.NoMore(),
        shelf_of(PlainShelf, ["A : one"]), SignShelf(OTHER), PutShelf(WORDS), SignTree(WORDS, [term("A")]),
        PutNode([term("A")]), Handing(PlainShelf(WORDS), "meets", term("A")), rule("g A -> c"), Rules(WORDS),
        Rules(OTHER, by="signs"), Desk(WORDS), [term("A")], [(0, rule("g A -> c"))], [PlainShelf(WORDS)],
    ]


def things_but(*kinds):
    """Any things that are none of these kinds."""
    return [thing for thing in any_things() if not isinstance(thing, kinds)]


def marked(thing):
    """What a thing is made of, that tells True from 1 and lists from tuples: to see that it stayed as it was."""
    if isinstance(thing, (list, tuple)):
        return (type(thing).__name__, [marked(part) for part in thing])
    if isinstance(thing, dict):
        return ("dict", [(repr(key), marked(part)) for key, part in thing.items()])
    if isinstance(thing, Shelf):
        kept = [(str(kept), thing.notes(kept)) for kept in thing.terms()]
        return (type(thing).__name__, thing.most(), kept, thing.changes(), thing.log())
    if isinstance(thing, Rules):
        return (type(thing).__name__, str(thing), str(thing.shelf()), thing.log())
    if isinstance(thing, Desk):
        shelves = [(name, marked(thing.shelf(name))) for name in thing.names()]
        return (type(thing).__name__, shelves, thing.hands(), thing.done(), thing.log(), thing.busy())
    if isinstance(thing, Handing):
        return (type(thing).__name__, thing.left(), thing.given())
    return (type(thing).__name__, str(thing))


def terms_of(many, letters=("A", "B"), words=WORDS):
    """All terms of at most so many signs with these letters, by their texts."""
    told = {size: [] for size in range(1, many + 1)}
    for size in range(1, many + 1):
        if size == 1:
            told[size].extend(letters)
        for name in words.names():
            for sizes in itertools.product(range(1, size), repeat=words.places(name)):
                if sum(sizes) == size - 1:
                    for parts in itertools.product(*[told[part] for part in sizes]):
                        told[size].append(" ".join((name,) + parts))
    return [text for size in range(1, many + 1) for text in told[size]]


class Chance:
    """Terms by chance, the same ones in each run."""

    def __init__(self, seed):
        self._random = random.Random(seed)

    def one_of(self, things):
        return things[self._random.randrange(len(things))]

    def text(self, words, most, letters):
        return " ".join(self._signs(words, 1 + self._random.randrange(most), letters))

    def pair(self):
        """Two terms of at most sixteen signs and of the same words."""
        words = self.one_of([WORDS, WIDE, ONE, ONE])
        letters = self.one_of([["A"], ["A", "B"], ["A", "B", "C", "N0", "Z9"]])
        return [term(self.text(words, 16, letters), words) for _ in range(2)]

    def _signs(self, words, most, letters):
        names = [name for name in words.names() if words.places(name) < most]
        if not names or most == 1 or self._random.randrange(6) == 0:
            names = [name for name in names if words.places(name) == 0 and self._random.randrange(6) == 0]
            return [self.one_of(names or letters)]
        name = self.one_of(names)
        signs = [name]
        for behind in reversed(range(words.places(name))):
            left = most - len(signs) - behind
            whole = behind == 0 and self.one_of([True, False])
            signs.extend(self._signs(words, left if whole else 1 + self._random.randrange(left), letters))
        return signs


def drawn_rules(chance, words, many):
    """Texts of rules by chance, no two alike, and None here and there."""
    told = []
    while len(told) < many:
        left = chance.text(words, 7, chance.one_of([["A"], ["A", "B"], ["A", "B", "C"]]))
        letters = term(left, words).letters()
        text = f"{left} -> {chance.text(words, chance.one_of([1, 5, 9]), letters or ['c'])}"
        if left not in letters and text not in told:
            told.append(text)
            if chance.one_of(range(4)) == 0:
                told.append(None)
    return told


FAMILIES = (errors.TermError, errors.Absent, errors.Ended)


class Case(unittest.TestCase):
    def refused(self, error, field, value, ask, *things, **named):
        """A refusal of just this class, whose field is the very thing, or such a number."""
        with self.assertRaises(error) as caught:
            ask(*things, **named)
        told = caught.exception
        self.assertIs(type(told), error)
        self.assertEqual(len([family for family in FAMILIES if family in error.__bases__]), 1)
        if field in ("at", "many", "row"):
            self.assertIs(type(getattr(told, field)), int)
            self.assertEqual(getattr(told, field), value)
        else:
            self.assertIs(getattr(told, field), value)

    def found(self, error, thing, ask, *things, **named):
        before = marked(thing)
        self.refused(error, "found", thing, ask, *things, **named)
        self.assertEqual(marked(thing), before)

    def sixteen(self):
        """A term that is just small enough to be met."""
        told = term("f " * 7 + "A " * 7 + "g A")
        self.assertEqual(len(told), 16)
        return told

    def refuses_two(self, ask):
        """An ask of two terms that refuses what is no term, terms of other words, and more than sixteen signs."""
        other, wide = term("A", OTHER), term("f " * 8 + "A " * 8 + "A")
        for thing in things_but(Term):
            self.found(errors.NoTerm, thing, ask, thing, None)
            self.found(errors.NoTerm, thing, ask, thing, wide)
            self.found(errors.NoTerm, thing, ask, wide, thing)
        self.found(errors.Unlike, other, ask, wide, other)
        self.found(errors.Unlike, wide, ask, other, wide)
        self.refused(errors.TooGreat, "many", 17, ask, wide, term("c"))
        self.refused(errors.TooGreat, "many", 17, ask, term("c"), wide)
        self.refused(errors.TooGreat, "many", 17, ask, wide, great("A", 9999))
        self.refused(errors.TooGreat, "many", 9999, ask, great("A", 9999), wide)

    def told(self, truth, thing):
        """Just True or False, nothing that is only equal to it."""
        self.assertIs(thing, truth)

    def equal_just(self, thing, like, unlike):
        """It equals what is like it and nothing else, both ways round and in a list, of its own kind and others."""
        for other in like:
            self.told(True, thing == other)
            self.told(True, other == thing)
            self.told(False, thing != other)
            self.assertEqual([thing], [other])
        for other in unlike:
            self.told(False, thing == other)
            self.told(False, other == thing)
            self.told(True, thing != other)
            self.told(False, [thing] == [other])
            self.told(False, other in [thing])
            self.told(False, thing in (other,))
