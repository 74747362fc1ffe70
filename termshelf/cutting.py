"""Shelves cut by the roots of their terms, joined, asked in parts, and held against one another."""

from termshelf.errors import NoList, NoNumber, NoShelf, TooMany
from termshelf.handing import need_shelf
from termshelf.kinds import shelf_of_kind
from termshelf.marks import is_list, is_whole
from termshelf.nomatch import need_way
from termshelf.shelves import MOST_KEPT, MOST_NOTES, Shelf, filled_shelf, need_limit
from termshelf.signs import sign_rank
from termshelf.terms import in_order, need_few_signs, need_like, need_term

KINDS = ("plain", "signs", "puttings")

_MOST_SHELVES = 12
_LETTER = "N0"


def root_of(term):
    need_term(term)
    return term.head() if term.words().has(term.head()) else _LETTER


def cut(shelf):
    need_shelf(shelf)
    rows = {}
    for term in shelf.terms():
        rows.setdefault(root_of(term), []).append((term, shelf.notes(term)))
    return {root: filled_shelf(shelf.empty_one(), rows[root]) for root in rows}


def _need_shelves(shelves):
    if not is_list(shelves, 1, _MOST_SHELVES):
        raise NoList(shelves)
    for shelf in shelves:
        need_shelf(shelf)
        need_like(shelves[0].words(), shelf)


def _joined_rows(shelves):
    """Each term that some shelves keep, with all its notes."""
    rows = {}
    for shelf in shelves:
        for term in shelf.terms():
            notes = rows.setdefault(str(term), (term, []))[1]
            notes.extend([note for note in shelf.notes(term) if note not in notes])
    return list(rows.values())


def joined(shelves, *, kind="plain", most=MOST_KEPT):
    _need_shelves(shelves)
    if kind not in KINDS:
        raise NoShelf(kind)
    if not is_whole(most, 1, MOST_KEPT):
        raise NoNumber(most)
    rows = _joined_rows(shelves)
    if any([len(notes) > MOST_NOTES for _, notes in rows]):
        raise TooMany(MOST_NOTES + 1)
    # More terms than it may keep the shelf itself refuses.
    return filled_shelf(shelf_of_kind(kind, shelves[0].words(), most), rows)


def _is_part(words, root, shelf):
    """Whether a shelf is of some words and keeps terms, all of a root."""
    if not isinstance(shelf, Shelf) or shelf.words() != words or len(shelf) == 0:
        return False
    return all([root_of(term) == root for term in shelf.terms()])


def _are_parts(thing):
    if not isinstance(thing, dict):
        return False
    shelves = list(thing.values())
    if not shelves or not isinstance(shelves[0], Shelf):
        return not shelves
    words = shelves[0].words()
    if not all([_is_part(words, root, thing[root]) for root in thing]):
        return False
    ranks = [sign_rank(words.ranks(), root) for root in thing]
    return ranks == sorted(ranks)


def _need_parts_and_ask(parts, way, term):
    if not _are_parts(parts):
        raise NoShelf(parts)
    need_way(way)
    need_term(term)
    for root in parts:
        need_like(parts[root].words(), term)
    need_few_signs(term)


def _roots_for(parts, way, term):
    root = root_of(term)
    if root == _LETTER and way in ("meets", "instances"):
        return list(parts)
    good = (_LETTER, root) if way in ("above", "meets") else (root,)
    return [part for part in parts if part in good]


def roots_for(parts, way, term):
    _need_parts_and_ask(parts, way, term)
    return _roots_for(parts, way, term)


def asked_of(parts, way, term, *, limit=None):
    _need_parts_and_ask(parts, way, term)
    need_limit(limit)
    told = []
    for root in _roots_for(parts, way, term):
        told.extend(parts[root].ask(way, term))
    return told[:limit]


def _notes_on(shelf, term):
    """The notes of a term, None where it isn't kept."""
    return shelf.notes(term) if shelf.has(term) else None


def unlike_terms(one, other):
    need_shelf(one)
    need_shelf(other)
    need_like(one.words(), other)
    kept = {str(term): term for term in one.terms() + other.terms()}
    rows = [(term, _notes_on(one, term), _notes_on(other, term)) for term in in_order(list(kept.values()))]
    return [row for row in rows if row[1] != row[2]]
