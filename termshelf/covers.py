"""Rows of terms, and which of them cover which."""

from termshelf.errors import NoList, NoRow
from termshelf.marks import is_list, is_whole
from termshelf.puttings import Putting, filling, made_putting
from termshelf.signs import need_words
from termshelf.terms import need_small

_MOST_TERMS = 4
_MOST_ROWS = 12


def _need_row(words, row):
    if not is_list(row, 0, _MOST_TERMS):
        raise NoRow(row)
    for term in row:
        need_small(words, term)


def _need_rows(words, one, other):
    need_words(words)
    _need_row(words, one)
    _need_row(words, other)


def _least(row, other, terms, places):
    """What letters become and the least places, where some terms of the row have become those there; or None."""
    if len(places) == len(row):
        return (terms, places)
    for place, term in enumerate(other):
        filled = filling(row[len(places)], term, terms)
        if filled is not None:
            found = _least(row, other, filled, places + [place])
            if found is not None:
                return found
    return None


def covers(words, one, other):
    _need_rows(words, one, other)
    found = _least(one, other, {}, [])
    return None if found is None else (made_putting(words, found[0]), found[1])


def _tries(row, other, terms):
    """The tries of a row's terms, letters having become some terms; None where they become terms of the other row."""
    if len(row) == 0:
        return None
    tries = []
    for term in other:
        below = None
        filled = filling(row[0], term, terms)
        if filled is not None:
            below = _tries(row[1:], other, filled)
            if below is None:
                return None
        tries.append(below)
    return tries


def no_cover(words, one, other):
    _need_rows(words, one, other)
    return _tries(one, other, {})


def shows_no_cover(words, one, other, thing):
    _need_rows(words, one, other)
    return isinstance(thing, list) and thing == _tries(one, other, {})


def _are_letters_of(row, putting):
    letters = {letter: True for term in row for letter in term.letters()}
    return len(putting) == len(letters) and all([letter in letters for letter in putting.letters()])


def _shows_cover(words, one, other, putting, places):
    if not isinstance(putting, Putting) or putting.words() != words or not _are_letters_of(one, putting):
        return False
    if not is_list(places, len(one), len(one)):
        return False
    if not all([is_whole(place, 0, len(other) - 1) for place in places]):
        return False
    terms = putting.pairs()
    # Not put in, as what comes might be too great to be told.
    return all([filling(term, other[place], terms) is not None for term, place in zip(one, places)])


def shows_cover(words, one, other, putting, places):
    _need_rows(words, one, other)
    return _shows_cover(words, one, other, putting, places)


def _is_covered(covering, number):
    """Whether a row covers this one, but for those from it on that it covers, too."""
    others = [other for other in range(len(covering)) if covering[other][number]]
    return any([other < number or not covering[number][other] for other in others])


def uncovered(words, rows):
    need_words(words)
    if not is_list(rows, 0, _MOST_ROWS):
        raise NoList(rows)
    for row in rows:
        _need_row(words, row)
    covering = [[_least(one, other, {}, []) is not None for other in rows] for one in rows]
    return [number for number in range(len(rows)) if not _is_covered(covering, number)]
