"""A desk, which keeps shelves and handings by names and answers lines."""

from termshelf.deskanswers import Kept, answer_to
from termshelf.desklines import line_parts
from termshelf.errors import NoLine, NoList, NoNumber, NotThere
from termshelf.marks import is_list, is_whole
from termshelf.signs import need_words
from termshelf.terms import term_of

MOST_SHELVES = 6

_MOST_LINES = 100


def _names_of(parts):
    """The names that a line tells, from the left, each with what part it is."""
    told = []
    for part, value in parts:
        if part in ("new", "name", "new hand", "hand"):
            told.append((part, value))
        elif part == "names":
            told.extend([("name", name) for name in value])
    return told


def _value(words, part, value):
    """What a part of a line tells, its terms read."""
    if part == "term":
        return term_of(words, value)
    if part == "two terms":
        return [term_of(words, text) for text in value]
    if part == "deeds":
        return [(deed, note, term_of(words, text)) for deed, note, text in value]
    return value


class Desk:
    """A desk, whose shelves are all of its words."""

    def __init__(self, words, *, most=MOST_SHELVES):
        need_words(words)
        if not is_whole(most, 1, MOST_SHELVES):
            raise NoNumber(most)
        self._kept = Kept(words, most)
        self._is_busy = False
        self._done = 0
        self._log = []

    def say(self, line):
        told = line_parts(line)
        if told is None:
            raise NoLine(line)
        word, parts = told
        self._need_names(parts)
        values = [_value(self._kept.words(), part, value) for part, value in parts]
        answer = answer_to(self._kept, word, values)
        self._done += 1
        self._log.append(word)
        return answer

    def say_all(self, lines):
        if not is_list(lines, 0, _MOST_LINES):
            raise NoList(lines)
        self._is_busy = True
        self._log.append("open")
        try:
            return [self.say(line) for line in lines]
        finally:
            self._is_busy = False
            self._log.append("close")

    def names(self):
        return self._kept.names()

    def hands(self):
        return self._kept.hands()

    def shelf(self, name):
        if name not in self.names():
            raise NotThere(name)
        return self._kept.shelf(name).copied()

    def busy(self):
        return self._is_busy

    def done(self):
        return self._done

    def log(self):
        return list(self._log)

    def _need_names(self, parts):
        names = _names_of(parts)
        for part, name in names:
            self._kept.need_name(part, name)
        for part, _ in names:
            self._kept.need_room(part)
