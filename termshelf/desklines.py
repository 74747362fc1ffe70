"""The forms of the lines that a desk is told."""

from termshelf.cutting import KINDS
from termshelf.marks import is_name, number_in, words_in
from termshelf.nomatch import WAYS
from termshelf.shelves import MOST_KEPT

_MOST_LINE = 400
_MOST_OTHERS = 6
_BETWEEN = "/"

# By the first word of a line: what stands behind it. Each part is one word, but the last one of some forms.
_FORMS = {
    "shelf": ("new", "kind", "number"),
    "copy": ("name", "new"),
    "drop": ("name",),
    "shelves": (),
    "put": ("name", "note", "term"),
    "take": ("name", "note", "term"),
    "together": ("name", "deeds"),
    "terms": ("name",),
    "notes": ("name", "term"),
    "changes": ("name",),
    "log": ("name",),
    "ask": ("name", "way", "term"),
    "first": ("number", "name", "way", "term"),
    "shown": ("name", "way", "term"),
    "steps": ("name", "way", "term"),
    "barred": ("name", "way", "term"),
    "meet": ("two terms",),
    "hand": ("new hand", "name", "way", "term"),
    "loose": ("new hand", "name", "way", "term"),
    "more": ("hand",),
    "left": ("hand",),
    "rest": ("hand",),
    "anew": ("hand",),
    "hands": (),
    "text": ("name",),
    "read": ("new", "rows"),
    "cut": ("name",),
    "join": ("new", "kind", "names"),
    "unlike": ("name", "name"),
}
_OPEN_ENDED = ("term", "two terms", "deeds", "rows", "names")


def _parted(words):
    """The lists of words between any two strokes."""
    told = [[]]
    for word in words:
        if word == _BETWEEN:
            told.append([])
        else:
            told[-1].append(word)
    return told


def _one_word(part, word):
    """What one word tells as a part of a line, None where it tells no such part."""
    if part == "number":
        return number_in(word, low=1, high=MOST_KEPT)
    if part == "kind":
        return word if word in KINDS else None
    if part == "way":
        return word if word in WAYS else None
    return word if is_name(word) else None


def _is_deed(words):
    return len(words) >= 3 and words[0] in ("put", "take") and is_name(words[1])


def _deed(words):
    return (words[0], words[1], " ".join(words[2:]))


def _terms_between(rows, many):
    """The texts of so many terms, None where there are more or fewer, or one has no sign."""
    if len(rows) != many or [] in rows:
        return None
    return [" ".join(row) for row in rows]


def _last_words(part, words):
    """What all words that are left tell as the last part of a line, None where they tell no such part."""
    rows = _parted(words)
    if part == "rows":
        return [" ".join(row) for row in rows]
    if part == "names":
        return list(words) if 1 <= len(words) <= _MOST_OTHERS and all([is_name(word) for word in words]) else None
    if part == "deeds":
        return [_deed(row) for row in rows] if all([_is_deed(row) for row in rows]) else None
    texts = _terms_between(rows, 1 if part == "term" else 2)
    return texts[0] if part == "term" and texts is not None else texts


def _parts_behind(form, words):
    """What the words behind the first one tell, part by part; None where they aren't of the form."""
    told = []
    for at, part in enumerate(form):
        if part in _OPEN_ENDED:
            told.append(_last_words(part, words[at:]))
            return None if told[-1] is None else told
        told.append(_one_word(part, words[at]) if at < len(words) else None)
        if told[-1] is None:
            return None
    return told if len(words) == len(form) else None


def line_parts(thing):
    """The first word of a line and its parts, tuples of what each is and what it tells; None of what is no line.

    Names, notes, kinds and ways are told as texts, numbers as numbers, terms and rows as texts, deeds as tuples of a
    word, a note and the text of a term.
    """
    words = words_in(thing)
    if words is None or len(thing) > _MOST_LINE or words[0] not in _FORMS:
        return None
    form = _FORMS[words[0]]
    told = _parts_behind(form, words[1:])
    return None if told is None else (words[0], list(zip(form, told)))


def is_line(thing):
    return line_parts(thing) is not None
