"""The forms of lines as plain regular expressions, and a plain desk, to hold the program against."""

import re

from termshelf import errors
from termshelf.cutting import cut, joined, unlike_terms
from termshelf.handing import Handing
from termshelf.puttings import meeting
from termshelf.putshelf import PutShelf
from termshelf.shelftext import shelf_of, shelf_text
from termshelf.shelves import PlainShelf
from termshelf.signshelf import SignShelf
from termshelf.terms import term_of

NAME = "[a-z]{1,8}"
KIND = "(plain|signs|puttings)"
MOST = "([1-9]|[123][0-9]|40)"
WAY = "(instances|above|meets|variants)"
WORD = "(?!/( |$))[^ \n]+"
TERM = f"{WORD}( {WORD})*"
DEED = f"(put|take) {NAME} {TERM}"
ROW = f"({WORD}( {WORD})* )?"
ASK = f"{NAME} {WAY} {TERM}"

FORMS = [
    f"shelf {NAME} {KIND} {MOST}", f"copy {NAME} {NAME}", f"drop {NAME}", "shelves", f"(put|take) {NAME} {NAME} {TERM}",
    f"together {NAME} {DEED}( / {DEED})*", f"(terms|changes|log) {NAME}", f"notes {NAME} {TERM}",
    f"(ask|shown|steps|barred) {ASK}", f"first {MOST} {ASK}", f"meet {TERM} / {TERM}", f"(hand|loose) {NAME} {ASK}",
    f"(more|left|rest|anew) {NAME}", "hands", f"text {NAME}", f"cut {NAME}",
    f"join {NAME} {KIND}( {NAME}){{1,6}}", f"unlike {NAME} {NAME}",
]


def is_read(line):
    """By its words, as rows without words leave just one blank between two strokes."""
    words = line.split(" ")
    return len(words) > 1 and words[0] == "read" and re.fullmatch(NAME, words[1]) is not None


def is_line(thing):
    if not isinstance(thing, str) or len(thing) > 400 or "\n" in thing or "" in thing.split(" "):
        return False
    return is_read(thing) or any(re.fullmatch(form, thing) for form in FORMS)


class Plain:
    """A desk as plainly as can be: lines are taken apart by their words, and answered by the functions."""

    def __init__(self, words, most=6):
        self.words, self.most = words, most
        self.shelves, self.handings, self.log, self.done = {}, {}, [], 0

    def say(self, line):
        if not is_line(line):
            raise errors.NoLine(line)
        answer = self.answer(*line.split(" "))
        self.done += 1
        self.log.append(line.split(" ")[0])
        return answer

    def say_all(self, lines):
        self.log.append("open")
        try:
            return [self.say(line) for line in lines]
        finally:
            self.log.append("close")

    def look(self, *rows, hand=False):
        """The names from the left, `+` ahead of each new one, then whether there is room."""
        kept, most = (self.handings, 6) if hand else (self.shelves, self.most)
        for name in rows:
            if name[0] == "+" and name[1:] in kept:
                raise errors.Twice(name[1:])
            if name[0] != "+" and name not in kept:
                raise errors.NotThere(name)
        return [name for name in rows if name[0] == "+"] and len(kept) == most and errors.TooMany(most + 1)

    def need(self, *rows):
        room = self.look(*rows)
        if room:
            raise room

    def term(self, *words):
        return term_of(self.words, " ".join(words))

    def answer(self, word, *rest):
        if word in ("hand", "loose"):
            return self.hand(word, *rest)
        if word in ("more", "left", "rest", "anew", "hands"):
            return self.of_hands(word, *rest)
        if word in ("shelf", "copy", "read", "join"):
            return self.new(word, *rest)
        if word in ("ask", "shown", "steps", "barred", "first"):
            return self.asked(word, *rest)
        if word == "shelves":
            kinds = {PlainShelf: "plain", SignShelf: "signs", PutShelf: "puttings"}
            return [" ".join([name, kinds[type(shelf)], str(len(shelf))]) for name, shelf in self.shelves.items()]
        if word == "meet":
            at = rest.index("/")
            one, other = self.term(*rest[:at]), self.term(*rest[at + 1:])
            return [str(thing) for thing in meeting(one, other) or ()]
        if word == "unlike":
            self.need(*rest)
            told = unlike_terms(*[self.shelves[name] for name in rest])
            return [f"{made} : {' '.join(one or ['-'])} | {' '.join(other or ['-'])}" for made, one, other in told]
        self.need(rest[0])
        return self.of_shelf(word, self.shelves[rest[0]], *rest)

    def of_shelf(self, word, shelf, name, *rest):
        if word == "drop":
            self.shelves.pop(name)
            return []
        if word in ("put", "take"):
            made = self.term(*rest[1:])
            (shelf.put if word == "put" else shelf.take)(made, rest[0])
            return []
        if word == "together":
            deeds = [deed.split(" ") for deed in " ".join(rest).split(" / ")]
            return [str(shelf.all_deeds([(deed[0], self.term(*deed[2:]), deed[1]) for deed in deeds]))]
        if word == "notes":
            return shelf.notes(self.term(*rest))
        if word == "text":
            return shelf_text(shelf).split("\n")
        if word == "cut":
            return [f"{root} {len(part)}" for root, part in cut(shelf).items()]
        told = {"terms": shelf.terms, "changes": lambda: [shelf.changes()], "log": shelf.log}[word]()
        return [str(thing) for thing in told]

    def asked(self, word, *rest):
        limit = int(rest[0]) if word == "first" else None
        name, way, *signs = rest[1:] if word == "first" else rest
        self.need(name)
        shelf, made = self.shelves[name], self.term(*signs)
        if word == "steps":
            return [str(shelf.steps(way, made))]
        if word == "barred":
            return [str(kept) for kept, _ in shelf.barred(way, made)]
        answers = shelf.ask(way, made, limit=limit)
        if word == "shown":
            return [" | ".join([str(one.asked()), str(one.keeping()), str(one.whole())]) for one in answers]
        return [str(one) for one in answers]

    def new(self, word, name, *rest):
        if word == "copy":
            self.need(name, "+" + rest[0])
            self.shelves[rest[0]] = self.shelves[name].copied()
        elif word == "shelf":
            self.need("+" + name)
            kind = {"plain": PlainShelf, "signs": SignShelf, "puttings": PutShelf}[rest[0]]
            self.shelves[name] = kind(self.words, most=int(rest[1]))
        elif word == "join":
            self.need("+" + name, *rest[1:])
            self.shelves[name] = joined([self.shelves[other] for other in rest[1:]], kind=rest[0])
        else:
            self.need("+" + name)
            text = " ".join(["\n" if part == "/" else part for part in rest])
            text = text.replace(" \n", "\n").replace("\n ", "\n")
            shelf = shelf_of(text)
            if shelf.words() != self.words:
                raise errors.Unlike(text)
            self.shelves[name] = shelf
        return []

    def hand(self, word, hand, name, way, *signs):
        room = self.look("+" + hand, hand=True)
        self.need(name)
        if room:
            raise room
        self.handings[hand] = Handing(self.shelves[name], way, self.term(*signs), steady=word == "hand")
        return []

    def of_hands(self, word, *rest):
        if word == "hands":
            return [f"{hand} {handing.given()}" for hand, handing in self.handings.items()]
        self.look(*rest, hand=True)
        handing = self.handings[rest[0]]
        if word == "anew":
            handing.begin_anew()
            return []
        told = {"more": lambda: [handing.more()], "left": lambda: [handing.left()], "rest": handing.rest}[word]()
        return [str(thing) for thing in told]
