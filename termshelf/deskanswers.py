"""What a desk keeps, and its answers to lines of which the form and the names were looked at already."""

from termshelf.cutting import cut, joined, unlike_terms
from termshelf.errors import NotThere, TooMany, Twice, Unlike
from termshelf.handing import Handing
from termshelf.kinds import kind_of, shelf_of_kind
from termshelf.marks import rows_in
from termshelf.puttings import meeting
from termshelf.shelftext import shelf_of, shelf_text

_MOST_HANDS = 6


class Kept:
    """The words of a desk, and its shelves and handings by their names, in the order in which they came."""

    def __init__(self, words, most):
        self._words = words
        self._most = most
        self._by_name = {}
        self._by_hand = {}

    def words(self):
        return self._words

    def names(self):
        return list(self._by_name)

    def hands(self):
        return list(self._by_hand)

    def shelf(self, name):
        return self._by_name[name]

    def handing(self, hand):
        return self._by_hand[hand]

    def keep_shelf(self, name, shelf):
        self._by_name[name] = shelf

    def keep_handing(self, hand, handing):
        self._by_hand[hand] = handing

    def drop_shelf(self, name):
        del self._by_name[name]

    def need_name(self, part, name):
        """Refuse a name that is kept and should be a new one, or that isn't kept and should be."""
        names = self._by_hand if part in ("hand", "new hand") else self._by_name
        if part in ("new", "new hand"):
            if name in names:
                raise Twice(name)
        elif name not in names:
            raise NotThere(name)

    def need_room(self, part):
        """Refuse what comes by a new name where there is no room for it."""
        if part == "new" and len(self._by_name) == self._most:
            raise TooMany(self._most + 1)
        if part == "new hand" and len(self._by_hand) == _MOST_HANDS:
            raise TooMany(_MOST_HANDS + 1)


def _texts(things):
    return [str(thing) for thing in things]


def _line_shelf(kept, name, kind, most):
    kept.keep_shelf(name, shelf_of_kind(kind, kept.words(), most))
    return []


def _line_copy(kept, name, other):
    kept.keep_shelf(other, kept.shelf(name).copied())
    return []


def _line_drop(kept, name):
    kept.drop_shelf(name)
    return []


def _line_shelves(kept):
    shelves = [(name, kept.shelf(name)) for name in kept.names()]
    return [f"{name} {kind_of(shelf)} {len(shelf)}" for name, shelf in shelves]


def _line_put(kept, name, note, term):
    kept.shelf(name).put(term, note)
    return []


def _line_take(kept, name, note, term):
    kept.shelf(name).take(term, note)
    return []


def _line_together(kept, name, deeds):
    return [str(kept.shelf(name).all_deeds([(deed, term, note) for deed, note, term in deeds]))]


def _line_terms(kept, name):
    return _texts(kept.shelf(name).terms())


def _line_notes(kept, name, term):
    return kept.shelf(name).notes(term)


def _line_changes(kept, name):
    return [str(kept.shelf(name).changes())]


def _line_log(kept, name):
    return kept.shelf(name).log()


def _line_ask(kept, name, way, term):
    return _texts(kept.shelf(name).ask(way, term))


def _line_first(kept, limit, name, way, term):
    return _texts(kept.shelf(name).ask(way, term, limit=limit))


def _line_shown(kept, name, way, term):
    answers = kept.shelf(name).ask(way, term)
    return [f"{answer.asked()} | {answer.keeping()} | {answer.whole()}" for answer in answers]


def _line_steps(kept, name, way, term):
    return [str(kept.shelf(name).steps(way, term))]


def _line_barred(kept, name, way, term):
    return [str(barred) for barred, _ in kept.shelf(name).barred(way, term)]


def _line_meet(kept, terms):
    shown = meeting(terms[0], terms[1])
    return [] if shown is None else _texts(shown)


def _line_hand(kept, hand, name, way, term):
    kept.keep_handing(hand, Handing(kept.shelf(name), way, term))
    return []


def _line_loose(kept, hand, name, way, term):
    kept.keep_handing(hand, Handing(kept.shelf(name), way, term, steady=False))
    return []


def _line_more(kept, hand):
    return [str(kept.handing(hand).more())]


def _line_left(kept, hand):
    return [str(kept.handing(hand).left())]


def _line_rest(kept, hand):
    return _texts(kept.handing(hand).rest())


def _line_anew(kept, hand):
    kept.handing(hand).begin_anew()
    return []


def _line_hands(kept):
    return [f"{hand} {kept.handing(hand).given()}" for hand in kept.hands()]


def _line_text(kept, name):
    return rows_in(shelf_text(kept.shelf(name)))


def _line_read(kept, name, rows):
    text = "\n".join(rows)
    shelf = shelf_of(text)
    if shelf.words() != kept.words():
        raise Unlike(text)
    kept.keep_shelf(name, shelf)
    return []


def _line_cut(kept, name):
    parts = cut(kept.shelf(name))
    return [f"{root} {len(parts[root])}" for root in parts]


def _line_join(kept, name, kind, others):
    kept.keep_shelf(name, joined([kept.shelf(other) for other in others], kind=kind))
    return []


def _side(notes):
    return ["-"] if notes is None else notes


def _line_unlike(kept, name, other):
    rows = unlike_terms(kept.shelf(name), kept.shelf(other))
    return [" ".join([str(term), ":"] + _side(notes) + ["|"] + _side(others)) for term, notes, others in rows]


_ANSWERS = {
    "shelf": _line_shelf, "copy": _line_copy, "drop": _line_drop, "shelves": _line_shelves, "put": _line_put,
    "take": _line_take, "together": _line_together, "terms": _line_terms, "notes": _line_notes,
    "changes": _line_changes, "log": _line_log, "ask": _line_ask, "first": _line_first, "shown": _line_shown,
    "steps": _line_steps, "barred": _line_barred, "meet": _line_meet, "hand": _line_hand, "loose": _line_loose,
    "more": _line_more, "left": _line_left, "rest": _line_rest, "anew": _line_anew, "hands": _line_hands,
    "text": _line_text, "read": _line_read, "cut": _line_cut, "join": _line_join, "unlike": _line_unlike,
}


def answer_to(kept, word, values):
    """The answer to a line that begins with a word, of what its parts tell."""
    action = _ANSWERS[word]
    return action(kept, *values)
