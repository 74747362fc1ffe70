"""The words of which terms are made, each with its places."""

from termshelf.errors import NotThere, NoWords
from termshelf.marks import is_list, is_name, is_whole

_MOST_WORDS = 12
_MOST_PLACES = 4


def _is_row(thing):
    return isinstance(thing, tuple) and len(thing) == 2 and is_name(thing[0]) and is_whole(thing[1], 0, _MOST_PLACES)


def _are_rows(thing):
    if not is_list(thing, 1, _MOST_WORDS) or not all([_is_row(row) for row in thing]):
        return False
    return len({row[0] for row in thing}) == len(thing)


class Words:
    """Some words in an order; they never change."""

    def __init__(self, rows):
        if not _are_rows(rows):
            raise NoWords(rows)
        self._rows = tuple(rows)
        self._places = {row[0]: row[1] for row in rows}
        self._order = {row[0]: number for number, row in enumerate(rows)}

    def names(self):
        return [row[0] for row in self._rows]

    def has(self, thing):
        return isinstance(thing, str) and thing in self._places

    def places(self, name):
        if not self.has(name):
            raise NotThere(name)
        return self._places[name]

    def place_of(self, name):
        if not self.has(name):
            raise NotThere(name)
        return self._order[name]

    def __len__(self):
        return len(self._rows)

    def __eq__(self, other):
        return isinstance(other, Words) and self._rows == other._rows

    def __str__(self):
        return " ".join([f"{row[0]}/{row[1]}" for row in self._rows])

    def __repr__(self):
        return f"Words({str(self)!r})"


def need_words(thing):
    if not isinstance(thing, Words):
        raise NoWords(thing)


def sign_places(words, sign):
    """How many terms stand behind a sign as its parts; behind a letter there are none."""
    return words.places(sign) if words.has(sign) else 0


def term_ends(words, signs):
    """For each sign of a term the place behind the part that begins with it."""
    ends = [0] * len(signs)
    for at in reversed(range(len(signs))):
        end = at + 1
        for _ in range(sign_places(words, signs[at])):
            end = ends[end]
        ends[at] = end
    return ends
