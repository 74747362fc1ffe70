"""Answers: the kept terms that an ask tells, with what shows it."""

from termshelf.puttings import letters_themselves, matching, met
from termshelf.terms import need_two, variants


class Answer:
    """An answer; it never changes."""

    def __init__(self, kept, notes, asked, keeping, whole):
        self._kept = kept
        self._notes = list(notes)
        self._asked = asked
        self._keeping = keeping
        self._whole = whole

    def kept(self):
        return self._kept

    def notes(self):
        return list(self._notes)

    def asked(self):
        return self._asked

    def keeping(self):
        return self._keeping

    def whole(self):
        return self._whole

    def __eq__(self, other):
        if not isinstance(other, Answer):
            return False
        if self._kept != other._kept or self._notes != other._notes or self._whole != other._whole:
            return False
        return self._asked == other._asked and self._keeping == other._keeping

    def __str__(self):
        return " ".join([str(self._kept), ":"] + self._notes)

    def __repr__(self):
        return f"Answer({str(self)!r})"


def _shown(way, ask, kept):
    """The whole and both puttings that show that an ask tells a kept term, None where it doesn't."""
    if way == "meets":
        return met(ask, kept)
    if way == "above":
        keeping = matching(kept, ask, {})
        return None if keeping is None else (ask, letters_themselves(ask), keeping)
    if way == "variants" and not variants(ask, kept):
        return None
    asked = matching(ask, kept, {})
    return None if asked is None else (kept, asked, letters_themselves(kept))


def answer_of(way, ask, kept, notes):
    need_two(ask, kept)
    return answer_found(way, ask, kept, notes)


def answer_found(way, ask, kept, notes):
    """The answer, or None, of terms that were looked at already."""
    shown = _shown(way, ask, kept)
    if shown is None:
        return None
    whole, asked, keeping = shown
    return Answer(kept, notes, asked, keeping, whole)
