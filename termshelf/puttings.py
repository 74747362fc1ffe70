"""Puttings of terms in the place of letters, instances, and meetings."""

from termshelf.errors import NoLetter, NoPairs, NoPutting, TooGreat
from termshelf.marks import is_letter, letter_rank
from termshelf.reckoning import Reckoning
from termshelf.signs import need_words
from termshelf.terms import MOST_TOLD, Term, made_term, need_like, need_term, need_two, need_two_small

_MOST_PAIRS = 100


def _in_letter_order(letters):
    unlike = {letter: True for letter in letters}
    return sorted(list(unlike), key=letter_rank)


def _are_pairs(thing):
    return isinstance(thing, dict) and len(thing) <= _MOST_PAIRS and all([is_letter(letter) for letter in thing])


class Putting:
    """A term for each of some letters; it never changes."""

    def __init__(self, words, pairs=None):
        need_words(words)
        if pairs is not None and not _are_pairs(pairs):
            raise NoPairs(pairs)
        self._words = words
        self._terms = {} if pairs is None else dict(pairs)
        for letter in self._terms:
            need_term(self._terms[letter])
            need_like(words, self._terms[letter])

    def words(self):
        return self._words

    def letters(self):
        return _in_letter_order(list(self._terms))

    def given(self, letter):
        if not is_letter(letter):
            raise NoLetter(letter)
        return self._terms[letter] if letter in self._terms else made_term(self._words, [letter])

    def __len__(self):
        return len(self._terms)

    def __eq__(self, other):
        return isinstance(other, Putting) and self._words == other._words and self._terms == other._terms

    def __str__(self):
        return "; ".join([f"{letter} = {self._terms[letter]}" for letter in self.letters()])

    def __repr__(self):
        return f"Putting({str(self)!r})"

    def put(self, term):
        need_term(term)
        need_like(self._words, term)
        # Counted ahead, as the signs themselves may be far too many to be written down.
        many = sum([len(self._terms[sign]) if sign in self._terms else 1 for sign in term.signs()])
        if many > MOST_TOLD:
            raise TooGreat(many)
        signs = []
        for sign in term.signs():
            signs.extend(self._terms[sign].signs() if sign in self._terms else [sign])
        return made_term(self._words, signs)

    def then(self, other):
        need_putting(other)
        need_like(self._words, other)
        letters = _in_letter_order(self.letters() + other.letters())
        return _made_putting(self._words, {letter: other.put(self.given(letter)) for letter in letters})

    def pairs(self):
        return dict(self._terms)


def _made_putting(words, terms):
    """A putting of terms that are known to be right: what is told may have more letters than what is handed in."""
    made = Putting(words)
    made._terms = dict(terms)
    return made


def need_putting(thing):
    if not isinstance(thing, Putting):
        raise NoPutting(thing)


def _filled(ask, kept, terms):
    """What letters must become, some being given, that the ask becomes the kept term; None where it can't."""
    filled = dict(terms)
    signs = kept.signs()
    at = 0
    for sign in ask.signs():
        if ask.words().has(sign):
            if signs[at] != sign:
                return None
            at += 1
        else:
            part = kept.part_from(at)
            if sign in filled and filled[sign] != part:
                return None
            filled[sign] = part
            at += len(part)
    return filled


def matched(ask, kept, *, within=None):
    need_two(ask, kept)
    if within is not None:
        need_putting(within)
        need_like(ask.words(), within)
    filled = _filled(ask, kept, {} if within is None else within.pairs())
    return None if filled is None else _made_putting(ask.words(), filled)


def letters_themselves(term):
    """The putting that gives each letter of a term to itself."""
    words = term.words()
    return _made_putting(words, {letter: made_term(words, [letter]) for letter in term.letters()})


def met(one, other):
    """The meeting of two terms that were looked at already."""
    signs = Reckoning(one, other).whole()
    if signs is None:
        return None
    whole = made_term(one.words(), signs).normal()
    return (whole, matched(one, whole), matched(other, whole))


def meeting(one, other):
    need_two_small(one, other)
    return met(one, other)


def _gives(thing, term, whole):
    """Whether a thing is a putting of just a term's letters that gives, put into it, a whole of the same words."""
    if not isinstance(thing, Putting) or thing.words() != term.words():
        return False
    # Not put in, as what comes might be too great to be told.
    return set(thing.letters()) == set(term.letters()) and _filled(term, whole, thing.pairs()) is not None


def shows_meeting(one, other, whole, left, right):
    need_two_small(one, other)
    if not isinstance(whole, Term) or whole.words() != one.words() or not whole.is_normal():
        return False
    return _gives(left, one, whole) and _gives(right, other, whole)
