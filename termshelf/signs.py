"""The words of which terms are made, each with its places."""

from termshelf.errors import NotThere, NoWords
from termshelf.marks import is_list, is_name, is_whole

MOST_PLACES = 4

_MOST_WORDS = 12


def _is_row(thing):
    return isinstance(thing, tuple) and len(thing) == 2 and is_name(thing[0]) and is_whole(thing[1], 0, MOST_PLACES)


def _are_rows(thing):
    if not is_list(thing, 1, _MOST_WORDS) or not all([_is_row(row) for row in thing]):
        return False
    return len({row[0] for row in thing}) == len(thing)


class Words:
    """Some words in an order; they never change."""

    def __init__(self, rows):
        if not _are_rows(rows):
            raise NoWords(rows)
        self._rows = tuple(rows)
        self._places = {row[0]: row[1] for row in rows}
        self._order = {row[0]: number for number, row in enumerate(rows)}
        self._ranks = {name: (1, self._order[name]) for name in self._order}

    def names(self):
        return [row[0] for row in self._rows]

    def has(self, thing):
        return isinstance(thing, str) and thing in self._places

    def places(self, name):
        if not self.has(name):
            raise NotThere(name)
        return self._places[name]

    def place_of(self, name):
        if not self.has(name):
            raise NotThere(name)
        return self._order[name]

    def __len__(self):
        return len(self._rows)

    def __eq__(self, other):
        return isinstance(other, Words) and self._rows == other._rows

    def __str__(self):
        return " ".join([f"{row[0]}/{row[1]}" for row in self._rows])

    def __repr__(self):
        return f"Words({str(self)!r})"

    def table(self):
        """The places by the names: the very dict by which all signs are looked up, to be read alone."""
        return self._places

    def ranks(self):
        """The ranks of the names among signs, to be read alone."""
        return self._ranks


def need_words(thing):
    if not isinstance(thing, Words):
        raise NoWords(thing)


def sign_places(words, sign):
    """How many terms stand behind a sign as its parts; behind a letter there are none."""
    return words.table().get(sign, 0)


def term_ends(places, signs):
    """For each sign of a term the place behind the part that begins with it."""
    ends = list(range(1, len(signs) + 1))
    for at in reversed(range(len(signs))):
        sign = signs[at]
        if sign in places:
            end = at + 1
            many = places[sign]
            while many > 0:
                end = ends[end]
                many -= 1
            ends[at] = end
    return ends


def part_end(places, signs, at):
    """The place behind the part that begins at one place, found without those of all the others."""
    lacking = 1
    while lacking > 0:
        sign = signs[at]
        lacking += places[sign] - 1 if sign in places else -1
        at += 1
    return at


def spot_around(places, signs, at):
    """The spot of the part that begins at one place, and the places at which those around it begin, in order."""
    around = []
    spot = []
    passed = 0
    for place in reversed(range(at)):
        # A word behind which too few whole parts were passed is one that stands around.
        many = places.get(signs[place], 0)
        if passed < many:
            around.append(place)
            spot.append(passed)
            passed = 0
        else:
            passed += 1 - many
    return tuple(spot[::-1]), around[::-1]


def letters_among(places, signs):
    """The unlike letters among signs, as they first come."""
    return [sign for sign in {one: True for one in signs} if sign not in places]


def normal_names(places, signs):
    """By each sign what stands in its place in the normal form: itself, or N0, N1, .. for letters as they come."""
    told = {sign: sign for sign in signs}
    number = 0
    for sign in list(told):
        if sign not in places:
            told[sign] = f"N{number}"
            number += 1
    return told


def with_normal_letters(places, signs):
    """The signs with the letters N0, N1, .. in the place of theirs, as they first come."""
    told = normal_names(places, signs)
    return [told[sign] for sign in signs]


def sign_rank(ranks, sign):
    """The rank of one sign of a normal form."""
    return ranks[sign] if sign in ranks else (0, int(sign[1:]))


def sign_ranks(ranks, signs):
    """The ranks of the normal form's signs."""
    told = {sign: True for sign in signs}
    number = 0
    for sign in list(told):
        if sign in ranks:
            told[sign] = ranks[sign]
        else:
            told[sign] = (0, number)
            number += 1
    return tuple([told[sign] for sign in signs])
