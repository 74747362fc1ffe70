"""Terms: a letter, or a word with its parts, told by signs in reading order."""

from termshelf.errors import Beyond, NoList, NoNumber, NoSign, NoSigns, NoSpot, NoTerm, NoTruth
from termshelf.errors import TooGreat, Unended, Unlike
from termshelf.marks import is_letter, is_list, is_whole, words_in
from termshelf.signs import letters_among, need_words, part_end, sign_ranks, term_ends, with_normal_letters

MOST_SIGNS = 100
MOST_TOLD = 9999
MOST_SMALL = 16

_MOST_LIST = 100


def _are_texts(thing, most):
    return is_list(thing, 1, most) and all([isinstance(sign, str) for sign in thing])


def _lacks(places, signs):
    """By each unlike sign, how many more terms lack behind it than ahead of it; refused is the first bad one."""
    lacks = {}
    for sign in {one: True for one in signs}:
        if sign in places:
            lacks[sign] = places[sign] - 1
        elif is_letter(sign):
            lacks[sign] = -1
        else:
            raise NoSign(list(signs).index(sign))
    return lacks


def _need_one_term(places, signs):
    """Refuse signs that are none, that go on behind the end of a term, or that end ahead of it."""
    lacks = _lacks(places, signs)
    lacking = 1
    for at, sign in enumerate(signs):
        if lacking == 0:
            raise Beyond(at)
        lacking += lacks[sign]
    if lacking > 0:
        raise Unended(lacking)


def _looked_over(words, signs, most):
    """The signs as a list of their own, where they are those of a term."""
    need_words(words)
    if not is_whole(most, 1, MOST_TOLD):
        raise NoNumber(most)
    if not _are_texts(signs, most):
        raise NoSigns(signs)
    _need_one_term(words.table(), signs)
    return list(signs)


class Known:
    """Signs that are known to be those of a term, so that they aren't looked over anew."""

    def __init__(self, signs):
        self._signs = signs


class Term:
    """A term; it never changes."""

    def __init__(self, words, signs, *, most=MOST_SIGNS):
        self._signs = signs._signs if isinstance(signs, Known) else _looked_over(words, signs, most)
        self._words = words
        # These are found when they are first asked for, as most terms are never asked for them.
        self._ends = None
        self._normal = None
        self._normal_term = None
        self._rank = None
        self._text = None

    def words(self):
        return self._words

    def signs(self):
        return list(self._signs)

    def head(self):
        return self._signs[0]

    def parts(self):
        return [self.part_from(start) for start in self._starts(0)]

    def spots(self):
        places = self._words.table()
        ends = self._found_ends()
        spots = [()] * len(self._signs)
        for at, sign in enumerate(self._signs):
            if sign in places:
                start = at + 1
                for number in range(places[sign]):
                    spots[start] = spots[at] + (number,)
                    start = ends[start]
        return spots

    def deep(self):
        deepest = 0
        around = []
        for at, end in enumerate(self._found_ends()):
            while around and around[-1] <= at:
                around.pop()
            deepest = max(deepest, len(around))
            around.append(end)
        return deepest

    def letters(self):
        return letters_among(self._words.table(), self._signs)

    def __len__(self):
        return len(self._signs)

    def part_at(self, spot):
        return self.part_from(self._need_place(spot))

    def head_at(self, spot):
        return self._signs[self._need_place(spot)]

    def with_part(self, spot, term):
        at = self._need_place(spot)
        need_term(term)
        need_like(self._words, term)
        return made_term(self._words, self._signs[:at] + term._signs + self._signs[self._end(at):])

    def __eq__(self, other):
        return isinstance(other, Term) and self._signs == other._signs and self._words == other._words

    def __str__(self):
        return " ".join(self._signs)

    def __repr__(self):
        return f"Term({str(self)!r})"

    def normal(self):
        if self.is_normal():
            return self
        if self._normal_term is None:
            self._normal_term = made_term(self._words, self._normal)
            self._normal_term._normal = self._normal
            self._normal_term._rank = self._rank
        return self._normal_term

    def is_normal(self):
        return self._signs == self._found_normal()

    def rank(self):
        if self._rank is None:
            self._rank = sign_ranks(self._words.ranks(), self._signs)
        return self._rank

    def text(self):
        """The text, which is kept."""
        if self._text is None:
            self._text = str(self)
        return self._text

    def normal_signs(self):
        return list(self._found_normal())

    def part_from(self, at):
        """The part whose signs begin at a place among the signs."""
        return made_term(self._words, self._signs[at:self._end(at)])

    def ends(self):
        """For each sign the place behind the part that begins with it."""
        return list(self._found_ends())

    def place_at(self, spot):
        """At which place among the signs the part at a spot begins, None of any thing that is no spot."""
        if not isinstance(spot, tuple):
            return None
        places = self._words.table()
        ends = self._found_ends()
        at = 0
        for number in spot:
            if not isinstance(number, int) or isinstance(number, bool):
                return None
            if not 0 <= number < places.get(self._signs[at], 0):
                return None
            at += 1
            passed = 0
            while passed < number:
                at = ends[at]
                passed += 1
        return at

    def spot_from(self, place):
        """The spot of the part whose signs begin at a place among the signs."""
        ends = self._found_ends()
        spot = []
        at = 0
        while at < place:
            at += 1
            number = 0
            while ends[at] <= place:
                at = ends[at]
                number += 1
            spot.append(number)
        return tuple(spot)

    def _need_place(self, spot):
        at = self.place_at(spot)
        if at is None:
            raise NoSpot(spot)
        return at

    def _starts(self, at):
        """The places at which the parts of the part that begins at a place begin."""
        ends = self._found_ends()
        starts = []
        start = at + 1
        while start < ends[at]:
            starts.append(start)
            start = ends[start]
        return starts

    def _found_ends(self):
        if self._ends is None:
            self._ends = term_ends(self._words.table(), self._signs)
        return self._ends

    def _end(self, at):
        return part_end(self._words.table(), self._signs, at) if self._ends is None else self._ends[at]

    def _found_normal(self):
        if self._normal is None:
            self._normal = with_normal_letters(self._words.table(), self._signs)
        return self._normal


def made_term(words, signs):
    """A term of a list of signs that are known to be one, and that nothing changes: it may be larger than others."""
    return Term(words, Known(signs))


def need_term(thing):
    if not isinstance(thing, Term):
        raise NoTerm(thing)


def need_like(words, thing):
    """Refuse a term or a putting that is of other words."""
    if thing.words() != words:
        raise Unlike(thing)


def need_term_of(words, thing):
    need_term(thing)
    need_like(words, thing)


def need_few_signs(term):
    if len(term) > MOST_SMALL:
        raise TooGreat(len(term))


def need_small(words, thing):
    """Refuse what is no term of some words that may be kept, asked with or met."""
    need_term_of(words, thing)
    need_few_signs(thing)


def need_two(one, other):
    need_term(one)
    need_term_of(one.words(), other)


def need_two_small(one, other):
    need_two(one, other)
    need_few_signs(one)
    need_few_signs(other)


def term_of(words, text):
    need_words(words)
    signs = words_in(text)
    if signs is None or len(signs) > MOST_SIGNS:
        raise NoSigns(text)
    return Term(words, signs)


def ahead(one, other):
    need_two(one, other)
    return one.rank() < other.rank()


def variants(one, other):
    need_two(one, other)
    return len(one) == len(other) and one.normal_signs() == other.normal_signs()


def in_order(terms, *, falling=False):
    if not is_list(terms, 0, _MOST_LIST):
        raise NoList(terms)
    for term in terms:
        need_term(term)
        if term.words() != terms[0].words():
            raise Unlike(term)
    if not isinstance(falling, bool):
        raise NoTruth(falling)
    if falling:
        return sorted(terms, key=lambda term: term.rank(), reverse=True)
    return sorted(terms, key=lambda term: term.rank())
