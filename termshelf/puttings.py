"""Puttings of terms in the place of letters, instances, and meetings."""

from termshelf.errors import NoLetter, NoPairs, NoPutting, TooGreat
from termshelf.marks import is_letter, rank_among_letters
from termshelf.signs import need_words, part_end, with_normal_letters
from termshelf.terms import MOST_TOLD, Term, made_term, need_like, need_term, need_two, need_two_small
from termshelf.uniting import united

_MOST_PAIRS = 100


def _in_letter_order(letters):
    return sorted(letters, key=rank_among_letters)


def _are_pairs(thing):
    return isinstance(thing, dict) and len(thing) <= _MOST_PAIRS and all([is_letter(letter) for letter in thing])


def _given_signs(signs, terms):
    """By each letter among signs to which a dict gives a term, this term's signs."""
    return {sign: terms[sign].signs() for sign in {one: True for one in signs} if sign in terms}


def with_given(signs, given):
    """Signs with those that a dict gives in the place of letters."""
    told = []
    for sign in signs:
        if sign in given:
            told.extend(given[sign])
        else:
            told.append(sign)
    return told


class Putting:
    """A term for each of some letters; it never changes."""

    def __init__(self, words, pairs=None):
        need_words(words)
        if pairs is not None and not _are_pairs(pairs):
            raise NoPairs(pairs)
        self._words = words
        self._terms = {} if pairs is None else dict(pairs)
        for letter in self._terms:
            need_term(self._terms[letter])
            need_like(words, self._terms[letter])

    def words(self):
        return self._words

    def letters(self):
        return _in_letter_order(list(self._terms))

    def given(self, letter):
        if not is_letter(letter):
            raise NoLetter(letter)
        return self._terms[letter] if letter in self._terms else made_term(self._words, [letter])

    def __len__(self):
        return len(self._terms)

    def __eq__(self, other):
        return isinstance(other, Putting) and self._words == other._words and self._terms == other._terms

    def __str__(self):
        return "; ".join([f"{letter} = {self._terms[letter]}" for letter in self.letters()])

    def __repr__(self):
        return f"Putting({str(self)!r})"

    def put(self, term):
        need_term(term)
        need_like(self._words, term)
        return self._put_into(term.signs())

    def _put_into(self, signs):
        given = _given_signs(signs, self._terms)
        # Counted ahead, as the signs themselves may be far too many to be written down.
        many = sum([len(given[sign]) if sign in given else 1 for sign in signs])
        if many > MOST_TOLD:
            raise TooGreat(many)
        return made_term(self._words, with_given(signs, given))

    def then(self, other):
        need_putting(other)
        need_like(self._words, other)
        letters = _in_letter_order(list({**self._terms, **other._terms}))
        return made_putting(self._words, {letter: other.put(self.given(letter)) for letter in letters})

    def pairs(self):
        return dict(self._terms)


def made_putting(words, terms):
    """A putting of terms that are known to be right: what is told may have more letters than what is handed in."""
    made = Putting(words)
    made._terms = terms
    return made


def need_putting(thing):
    if not isinstance(thing, Putting):
        raise NoPutting(thing)


def fill_in(places, asked, signs, at, given):
    """Give letters the signs by which asked signs become those that begin at a place, besides what they were given.

    Told is the place behind what they become, None where they can't become it.
    """
    for sign in asked:
        if sign in places:
            if signs[at] != sign:
                return None
            at += 1
        elif sign in given:
            # Where one term's signs stand no other term begins, so its end needn't be looked for.
            part = given[sign]
            if signs[at:at + len(part)] != part:
                return None
            at += len(part)
        else:
            end = part_end(places, signs, at)
            given[sign] = signs[at:end]
            at = end
    return at


def filling(ask, kept, terms):
    """What letters must become, some being given, that the ask becomes the kept term; None where it can't."""
    words = ask.words()
    given = {letter: terms[letter].signs() for letter in terms}
    if fill_in(words.table(), ask.signs(), kept.signs(), 0, given) is None:
        return None
    filled = dict(terms)
    for letter in given:
        if letter not in filled:
            filled[letter] = made_term(words, given[letter])
    return filled


def matched(ask, kept, *, within=None):
    need_two(ask, kept)
    if within is not None:
        need_putting(within)
        need_like(ask.words(), within)
    return matching(ask, kept, {} if within is None else within.pairs())


def matching(ask, kept, terms):
    """The putting by which the ask becomes the kept term, letters being given some terms; both were looked at."""
    filled = filling(ask, kept, terms)
    return None if filled is None else made_putting(ask.words(), filled)


def letters_themselves(term):
    """The putting that gives each letter of a term to itself."""
    words = term.words()
    return made_putting(words, {letter: made_term(words, [letter]) for letter in term.letters()})


def _becoming(words, become, table):
    """The putting of what letters become, told by signs, by a table that has normal letters for all of theirs."""
    terms = {letter: made_term(words, [table[sign] for sign in become[letter]]) for letter in become}
    return made_putting(words, terms)


def met(one, other):
    """The meeting of two terms that were looked at already."""
    uniting = united(one, other)
    if uniting is None:
        return None
    words = one.words()
    signs = uniting.whole()
    whole = with_normal_letters(words.table(), signs)
    table = {old: new for old, new in zip(signs, whole)}
    left, right = [_becoming(words, uniting.becoming(side), table) for side in (0, 1)]
    return (made_term(words, whole), left, right)


def meeting(one, other):
    need_two_small(one, other)
    return met(one, other)


def _gives(thing, term, whole):
    """Whether a thing is a putting of just a term's letters that gives, put into it, a whole of the same words."""
    if not isinstance(thing, Putting) or thing.words() != term.words():
        return False
    pairs = thing.pairs()
    letters = term.letters()
    if len(pairs) != len(letters) or not all([letter in pairs for letter in letters]):
        return False
    # Not put in, as what comes might be too great to be told.
    return filling(term, whole, pairs) is not None


def shows_meeting(one, other, whole, left, right):
    need_two_small(one, other)
    if not isinstance(whole, Term) or whole.words() != one.words() or not whole.is_normal():
        return False
    return _gives(left, one, whole) and _gives(right, other, whole)
