"""Terms: a letter, or a word with its parts, told by signs in reading order."""

from termshelf.errors import Beyond, NoList, NoNumber, NoSign, NoSigns, NoSpot, NoTerm, NoTruth
from termshelf.errors import TooGreat, Unended, Unlike
from termshelf.marks import is_letter, is_list, is_whole, words_in
from termshelf.signs import need_words, sign_places, term_ends

MOST_SIGNS = 100
MOST_TOLD = 9999
MOST_SMALL = 16

_MOST_LIST = 100


def _are_texts(thing, most):
    return is_list(thing, 1, most) and all([isinstance(sign, str) for sign in thing])


def _need_one_term(words, signs):
    """Refuse signs that are none, that go on behind the end of a term, or that end ahead of it."""
    for at, sign in enumerate(signs):
        if not is_letter(sign) and not words.has(sign):
            raise NoSign(at)
    lacking = 1
    for at, sign in enumerate(signs):
        if lacking == 0:
            raise Beyond(at)
        lacking += sign_places(words, sign) - 1
    if lacking > 0:
        raise Unended(lacking)


def _normal_signs(words, signs):
    letters = {}
    for sign in signs:
        if not words.has(sign) and sign not in letters:
            letters[sign] = f"N{len(letters)}"
    return [letters.get(sign, sign) for sign in signs]


def _sign_rank(words, sign):
    if words.has(sign):
        return (1, words.place_of(sign))
    return (0, int(sign[1:]))


class Term:
    """A term; it never changes."""

    def __init__(self, words, signs, *, most=MOST_SIGNS):
        need_words(words)
        if not is_whole(most, 1, MOST_TOLD):
            raise NoNumber(most)
        if not _are_texts(signs, most):
            raise NoSigns(signs)
        _need_one_term(words, signs)
        self._words = words
        self._signs = list(signs)
        self._ends = term_ends(words, signs)

    def words(self):
        return self._words

    def signs(self):
        return list(self._signs)

    def head(self):
        return self._signs[0]

    def parts(self):
        return [self.part_from(start) for start in self._starts(0)]

    def spots(self):
        spots = [()] * len(self._signs)
        for at in range(len(self._signs)):
            for number, start in enumerate(self._starts(at)):
                spots[start] = spots[at] + (number,)
        return spots

    def deep(self):
        deepest = 0
        around = []
        for at, end in enumerate(self._ends):
            while around and around[-1] <= at:
                around.pop()
            deepest = max(deepest, len(around))
            around.append(end)
        return deepest

    def letters(self):
        return list({sign: True for sign in self._signs if not self._words.has(sign)})

    def __len__(self):
        return len(self._signs)

    def part_at(self, spot):
        return self.part_from(self._need_place(spot))

    def head_at(self, spot):
        return self._signs[self._need_place(spot)]

    def with_part(self, spot, term):
        at = self._need_place(spot)
        need_term(term)
        need_like(self._words, term)
        return made_term(self._words, self._signs[:at] + term._signs + self._signs[self._ends[at]:])

    def __eq__(self, other):
        return isinstance(other, Term) and self._signs == other._signs and self._words == other._words

    def __str__(self):
        return " ".join(self._signs)

    def __repr__(self):
        return f"Term({str(self)!r})"

    def normal(self):
        return made_term(self._words, _normal_signs(self._words, self._signs))

    def is_normal(self):
        return self._signs == _normal_signs(self._words, self._signs)

    def rank(self):
        return tuple([_sign_rank(self._words, sign) for sign in _normal_signs(self._words, self._signs)])

    def part_from(self, at):
        """The part whose signs begin at a place among the signs."""
        return made_term(self._words, self._signs[at:self._ends[at]])

    def place_at(self, spot):
        """At which place among the signs the part at a spot begins, None of any thing that is no spot."""
        if not isinstance(spot, tuple):
            return None
        at = 0
        for number in spot:
            starts = self._starts(at)
            if not is_whole(number, 0, len(starts) - 1):
                return None
            at = starts[number]
        return at

    def _need_place(self, spot):
        at = self.place_at(spot)
        if at is None:
            raise NoSpot(spot)
        return at

    def _starts(self, at):
        """The places at which the parts of the part that begins at a place begin."""
        starts = []
        start = at + 1
        while start < self._ends[at]:
            starts.append(start)
            start = self._ends[start]
        return starts


def made_term(words, signs):
    """A term of signs that are known to be one: what is told may be larger than what may be handed in."""
    made = Term(words, ["A"])
    made._signs = list(signs)
    made._ends = term_ends(words, signs)
    return made


def need_term(thing):
    if not isinstance(thing, Term):
        raise NoTerm(thing)


def need_like(words, thing):
    """Refuse a term or a putting that is of other words."""
    if thing.words() != words:
        raise Unlike(thing)


def need_two(one, other):
    need_term(one)
    need_term(other)
    need_like(one.words(), other)


def need_two_small(one, other):
    need_two(one, other)
    for term in (one, other):
        if len(term) > MOST_SMALL:
            raise TooGreat(len(term))


def term_of(words, text):
    need_words(words)
    signs = words_in(text)
    if signs is None or len(signs) > MOST_SIGNS:
        raise NoSigns(text)
    return Term(words, signs)


def ahead(one, other):
    need_two(one, other)
    return one.rank() < other.rank()


def variants(one, other):
    need_two(one, other)
    return one.normal() == other.normal()


def in_order(terms, *, falling=False):
    if not is_list(terms, 0, _MOST_LIST):
        raise NoList(terms)
    for term in terms:
        need_term(term)
        need_like(terms[0].words(), term)
    if not isinstance(falling, bool):
        raise NoTruth(falling)
    if falling:
        return sorted(terms, key=lambda term: term.rank(), reverse=True)
    return sorted(terms, key=lambda term: term.rank())
