"""Shelves as whole texts, written and read."""

from termshelf.cutting import KINDS
from termshelf.errors import NoShelf, NoText, TermError
from termshelf.kinds import kind_of, shelf_of_kind
from termshelf.marks import is_name, number_in, rows_in, words_in
from termshelf.shelves import MOST_KEPT, MOST_NOTES, filled_shelf
from termshelf.signs import MOST_PLACES, Words
from termshelf.terms import MOST_SMALL, Term


def _words_row(words):
    return " ".join(["words"] + [f"{name} {words.places(name)}" for name in words.names()])


def _term_row(term, notes):
    return " ".join(["term", str(term), ":"] + notes)


def shelf_text(shelf):
    kind = kind_of(shelf)
    if kind is None:
        raise NoShelf(shelf)
    rows = [f"shelf {kind} {shelf.most()}", _words_row(shelf.words())]
    return "\n".join(rows + [_term_row(term, shelf.notes(term)) for term in shelf.terms()])


def _read_shelf(row):
    """The kind and how many terms may be kept, None of a row that isn't the first one of a whole text."""
    words = words_in(row)
    if words is None or len(words) != 3 or words[0] != "shelf" or words[1] not in KINDS:
        return None
    most = number_in(words[2], low=1, high=MOST_KEPT)
    return None if most is None else (words[1], most)


def _read_words(row):
    """The words, None of a row that isn't the second one of a whole text."""
    words = words_in(row)
    if words is None or words[0] != "words" or len(words) % 2 == 0:
        return None
    pairs = [(name, number_in(places, high=MOST_PLACES)) for name, places in zip(words[1::2], words[2::2])]
    # No words at all, or a number that isn't plainly written, make no words either.
    try:
        return Words(pairs)
    except TermError:
        return None


def _read_term(words, row):
    """The term and its notes, None of a row that isn't a later one of a whole text."""
    told = words_in(row)
    if told is None or told[0] != "term" or ":" not in told:
        return None
    at = told.index(":")
    notes = told[at + 1:]
    if not 1 <= len(notes) <= MOST_NOTES or not all([is_name(note) for note in notes]):
        return None
    if len({note for note in notes}) < len(notes):
        return None
    try:
        return (Term(words, told[1:at], most=MOST_SMALL), notes)
    except TermError:
        return None


def _need_row(told, number):
    if told is None:
        raise NoText(number)
    return told


def shelf_of(text):
    rows = _need_row(rows_in(text), 0)
    kind, most = _need_row(_read_shelf(rows[0]), 0)
    words = _need_row(_read_words(rows[1]) if len(rows) > 1 else None, 1)
    terms = [_need_row(_read_term(words, rows[at]), at) for at in range(2, len(rows))]
    return filled_shelf(shelf_of_kind(kind, words, most), terms)
