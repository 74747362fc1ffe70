"""Shelves, which keep terms with notes and are asked for terms, and the plain list among them."""

from termshelf.answers import answer_found
from termshelf.errors import Absent, NoDeed, NoList, NoNote, NoNumber, NotThere, TermError, TooMany, Twice
from termshelf.marks import is_list, is_name, is_whole
from termshelf.nomatch import need_way, why_not
from termshelf.signs import need_words
from termshelf.terms import Term, need_small, need_term_of

MOST_KEPT = 40
MOST_NOTES = 8

_MOST_DEEDS = 100
_DEEDS = ("put", "take")


def _need_note(thing):
    if not is_name(thing):
        raise NoNote(thing)


def need_limit(thing):
    if thing is not None and not is_whole(thing, 1, MOST_KEPT):
        raise NoNumber(thing)


def _need_deeds(rows):
    if not is_list(rows, 0, _MOST_DEEDS):
        raise NoList(rows)
    for at, row in enumerate(rows):
        if not isinstance(row, tuple) or len(row) != 3 or row[0] not in _DEEDS:
            raise NoDeed(at)


def _place_of(kept, terms):
    """The place among normal terms in order at which a normal one stands or would stand."""
    low = 0
    high = len(terms)
    while low < high:
        middle = (low + high) // 2
        if terms[middle].rank() < kept.rank():
            low = middle + 1
        else:
            high = middle
    return low


class Shelf:
    """What all kinds of shelf do alike; a kind keeps its own index of the terms, and finds candidates by it."""

    def __init__(self, words, *, most=MOST_KEPT):
        need_words(words)
        if not is_whole(most, 1, MOST_KEPT):
            raise NoNumber(most)
        self._words = words
        self._most = most
        # The kept terms in order, and by the text of each its notes.
        self._terms = []
        self._notes = {}
        self._changes = 0
        self._log = []

    def put(self, term, note):
        self._put(term, note)
        self._log.append("put")

    def take(self, term, note):
        self._take(term, note)
        self._log.append("take")

    def words(self):
        return self._words

    def most(self):
        return self._most

    def terms(self):
        return list(self._terms)

    def notes(self, term):
        need_term_of(self._words, term)
        return list(self._notes[self._need_kept(term).text()])

    def has(self, term):
        return isinstance(term, Term) and term.words() == self._words and term.normal().text() in self._notes

    def changes(self):
        return self._changes

    def __len__(self):
        return len(self._terms)

    def __eq__(self, other):
        return isinstance(other, Shelf) and self._words == other._words and self._notes == other._notes

    def __str__(self):
        many = sum([len(self._notes[text]) for text in self._notes])
        return f"{len(self._terms)} {many}"

    def __repr__(self):
        return f"{self.__class__.__name__}({str(self)!r})"

    def copied(self):
        return filled_shelf(self.empty_one(), [(term, self._notes[term.text()]) for term in self._terms])

    def ask(self, way, term, *, limit=None):
        self.need_ask(way, term)
        need_limit(limit)
        answers = []
        for kept in self._among(self.candidates(way, term)):
            answer = answer_found(way, term, kept, self._notes[kept.text()])
            if answer is not None:
                answers.append(answer)
                if len(answers) == limit:
                    return answers
        return answers

    def barred(self, way, term):
        self.need_ask(way, term)
        papers = [(kept, why_not(way, term, kept)) for kept in self._terms]
        return [(kept, paper) for kept, paper in papers if paper is not None]

    def walk(self, way, term):
        raise NotImplementedError("a kind of shelf tells its own walk")

    def steps(self, way, term):
        raise NotImplementedError("a kind of shelf counts its own steps")

    def index_put(self, term):
        """Nothing is to be done where a kind has no index."""
        pass

    def index_take(self, term):
        """Nothing is to be done where a kind has no index."""
        pass

    def empty_one(self):
        raise NotImplementedError("a kind of shelf makes shelves of its own kind")

    def candidates(self, way, term):
        """Where a kind has no index, all that is kept may be told."""
        return self.terms()

    def need_ask(self, way, term):
        need_way(way)
        need_small(self._words, term)

    def all_deeds(self, rows):
        _need_deeds(rows)
        before = self._changes
        undone = []
        self._log.append("begin")
        try:
            for deed, term, note in rows:
                undone.append(self._put(term, note) if deed == "put" else self._take(term, note))
                self._log.append(deed)
        except (TermError, Absent):
            for deed in reversed(undone):
                self._undo(deed)
            self._changes = before
            self._log.extend(["back", "end"])
            raise
        self._log.append("end")
        return len(rows)

    def log(self):
        return list(self._log)

    def _need_kept(self, term):
        """The normal form, where it is kept."""
        kept = term.normal()
        if kept.text() not in self._notes:
            raise NotThere(term)
        return kept

    def _among(self, candidates):
        """The kept terms that are among some, in order."""
        texts = {term.text(): True for term in candidates}
        return [kept for kept in self._terms if kept.text() in texts]

    def _need_room(self, notes, note):
        """Refuse a note besides others, or of a term that isn't kept, whose notes are None, where there is no room."""
        if notes is None:
            if len(self._terms) == self._most:
                raise TooMany(self._most + 1)
        elif note in notes:
            raise Twice(note)
        elif len(notes) == MOST_NOTES:
            raise TooMany(MOST_NOTES + 1)

    def _put(self, term, note):
        """Put a term in with a note; told is what undoes it."""
        need_small(self._words, term)
        _need_note(note)
        kept = term.normal()
        notes = self._notes.get(kept.text())
        self._need_room(notes, note)
        at = 0 if notes is None else len(notes)
        self._note(kept, at, note)
        self._changes += 1
        return ("take", kept, at, note)

    def _take(self, term, note):
        """Take a term with a note; told is what undoes it."""
        need_term_of(self._words, term)
        _need_note(note)
        kept = self._need_kept(term)
        notes = self._notes[kept.text()]
        if note not in notes:
            raise NotThere(note)
        at = notes.index(note)
        self._drop_note(kept, at)
        self._changes += 1
        return ("put", kept, at, note)

    def _undo(self, deed):
        way, kept, at, note = deed
        if way == "put":
            self._note(kept, at, note)
        else:
            self._drop_note(kept, at)

    def _note(self, kept, at, note):
        """Put a note at its place among those of a normal term, which is kept from then on."""
        if kept.text() in self._notes:
            self._notes[kept.text()].insert(at, note)
        else:
            self._notes[kept.text()] = [note]
            self._terms.insert(_place_of(kept, self._terms), kept)
            self.index_put(kept)

    def _drop_note(self, kept, at):
        """Drop a note of a normal term, which isn't kept any more where it has no other one."""
        notes = self._notes[kept.text()]
        notes.pop(at)
        if notes == []:
            del self._notes[kept.text()]
            self._terms.pop(_place_of(kept, self._terms))
            self.index_take(kept)


def filled_shelf(shelf, rows):
    """A new shelf with the terms and notes of some rows, put in as by put; they make it, and are no deeds of it."""
    for term, notes in rows:
        for note in notes:
            shelf._put(term, note)
    shelf._changes = 0
    return shelf


class PlainShelf(Shelf):
    """A shelf that is a plain list, and goes through all of it for each ask."""

    def index_put(self, term):
        pass

    def index_take(self, term):
        pass

    def empty_one(self):
        return PlainShelf(self.words(), most=self.most())

    def candidates(self, way, term):
        return self.terms()

    def walk(self, way, term):
        self.need_ask(way, term)
        answers = [answer_found(way, term, kept, []) for kept in self.terms()]
        return [(number, answer is not None) for number, answer in enumerate(answers)]

    def steps(self, way, term):
        self.need_ask(way, term)
        return 1 + sum([len(kept) for kept in self.terms()])
