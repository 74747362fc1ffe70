"""Answers handed out one at a time while a shelf changes, and tellers of answers."""

from termshelf.errors import Changed, NoMore, NoShelf, NoTruth
from termshelf.nomatch import need_way
from termshelf.shelves import Shelf, need_limit


def need_shelf(thing):
    if not isinstance(thing, Shelf):
        raise NoShelf(thing)


class Handing:
    """A handing out of the answers that a shelf told at once."""

    def __init__(self, shelf, way, term, *, steady=True):
        need_shelf(shelf)
        shelf.need_ask(way, term)
        if not isinstance(steady, bool):
            raise NoTruth(steady)
        self._shelf = shelf
        self._by_way = way
        self._term = term
        self._steady = steady
        self.begin_anew()

    def more(self):
        self._need_unchanged()
        if self._given == len(self._answers):
            raise NoMore()
        self._given += 1
        return self._answers[self._given - 1]

    def left(self):
        self._need_unchanged()
        return len(self._answers) - self._given

    def given(self):
        return self._given

    def rest(self):
        self._need_unchanged()
        told = self._answers[self._given:]
        self._given = len(self._answers)
        return told

    def begin_anew(self):
        self._answers = self._shelf.ask(self._by_way, self._term)
        self._since = self._shelf.changes()
        self._given = 0

    def _need_unchanged(self):
        many = self._shelf.changes() - self._since
        if not self._steady and many > 0:
            raise Changed(many)


def teller(shelf, way, *, limit=None):
    need_shelf(shelf)
    need_way(way)
    need_limit(limit)

    def told(term):
        return shelf.ask(way, term, limit=limit)

    return told
