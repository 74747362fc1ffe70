"""Patterns with holes, and the tree of puttings, whose nodes have the common parts of their terms."""

from termshelf.errors import NoList, NoNumber, NoSpot
from termshelf.marks import is_letter, is_list, is_whole
from termshelf.signs import need_words, part_end, sign_rank
from termshelf.terms import MOST_SIGNS, made_term, need_term, need_term_of

HOLE = "?"

_MOST_TERMS = 40


def _is_sign(words, thing):
    return words.has(thing) or is_letter(thing) or isinstance(thing, str) and thing == HOLE


def is_pattern(words, thing):
    need_words(words)
    if not is_list(thing, 1, MOST_SIGNS) or not all([_is_sign(words, sign) for sign in thing]):
        return False
    places = words.table()
    lacking = 1
    for sign in thing:
        if lacking == 0:
            return False
        lacking += places.get(sign, 0) - 1
    return lacking == 0


def fits(pattern, term):
    words = term.words()
    return is_pattern(words, pattern) and list(pattern) == _common(words.table(), pattern, term.normal_signs())


def _common(places, pattern, signs):
    """What two patterns have in common: their signs where they have the same, and else a hole."""
    told = []
    at = beside = 0
    while at < len(pattern):
        if pattern[at] == signs[beside]:
            told.append(pattern[at])
            at += 1
            beside += 1
        else:
            told.append(HOLE)
            at = part_end(places, pattern, at)
            beside = part_end(places, signs, beside)
    return told


def _common_of(terms):
    """The common part of normal terms."""
    places = terms[0].words().table()
    told = terms[0].signs()
    for term in terms[1:]:
        told = _common(places, told, term.signs())
        if told == [HOLE]:
            break
    return told


def _need_terms(thing):
    if not is_list(thing, 1, _MOST_TERMS):
        raise NoList(thing)
    for term in thing:
        need_term(term)
        need_term_of(thing[0].words(), term)


def common_part(terms):
    _need_terms(terms)
    return _common_of([term.normal() for term in terms])


def _unlike_in_order(terms):
    """The normal forms, each once, in order."""
    normal = {term.rank(): term.normal() for term in terms}
    return [normal[rank] for rank in sorted(list(normal))]


class Shape:
    """A pattern as a term, of which holes stand in the place of letters, as these have no parts either."""

    def __init__(self, words, pattern):
        self._with_holes = made_term(words, list(pattern))
        self._with_letters = None

    def with_holes(self):
        return self._with_holes

    def with_letters(self):
        """The term that the pattern becomes when each hole has a letter of its own."""
        if self._with_letters is None:
            # No letter has a hole's sign, so with a number behind it each one is a letter that stands nowhere else.
            signs = [f"{HOLE}{at}" if sign == HOLE else sign for at, sign in enumerate(self._with_holes.signs())]
            self._with_letters = made_term(self._with_holes.words(), signs)
        return self._with_letters


class Ordered:
    """Normal terms that are known to be unlike and in order, so that they aren't looked over anew."""

    def __init__(self, terms):
        self._terms = terms


class PutNode:
    """A node of a tree of puttings, with all that is beneath it; it never changes."""

    def __init__(self, terms):
        if isinstance(terms, Ordered):
            self._terms = terms._terms
        else:
            _need_terms(terms)
            self._terms = _unlike_in_order(terms)
        self._words = self._terms[0].words()
        self._pattern = _common_of(self._terms)
        self._shape = Shape(self._words, self._pattern)
        self._children = [PutNode(Ordered(group)) for group in self._groups()]
        self._paths = [()]
        for number, child in enumerate(self._children):
            self._paths.extend([(number,) + path for path in child.paths()])

    def words(self):
        return self._words

    def terms(self):
        return list(self._terms)

    def pattern(self):
        return list(self._pattern)

    def children(self):
        return list(self._children)

    def __len__(self):
        return len(self._paths)

    def __eq__(self, other):
        return isinstance(other, PutNode) and self._terms == other._terms

    def __str__(self):
        return " ".join(self._pattern)

    def __repr__(self):
        return f"PutNode({str(self)!r})"

    def fills(self, number):
        if not is_whole(number, 0, len(self._children) - 1):
            raise NoNumber(number)
        places = self._words.table()
        signs = self._children[number].pattern()
        told = []
        at = 0
        for sign in self._pattern:
            end = part_end(places, signs, at) if sign == HOLE else at + 1
            if sign == HOLE:
                told.append(signs[at:end])
            at = end
        return told

    def node_at(self, path):
        if not isinstance(path, tuple):
            raise NoSpot(path)
        node = self
        for number in path:
            children = node.children()
            if not is_whole(number, 0, len(children) - 1):
                raise NoSpot(path)
            node = children[number]
        return node

    def shape(self):
        return self._shape

    def paths(self):
        """The paths of the node and of all beneath it, each ahead of those beneath it, in order."""
        return list(self._paths)

    def _groups(self):
        """The terms of each child, in the order of the children."""
        if HOLE not in self._pattern:
            return []
        # Ahead of the first hole all terms have the same signs, so it stands at the same place in all of them.
        at = self._pattern.index(HOLE)
        groups = {}
        for term in self._terms:
            groups.setdefault(term.signs()[at], []).append(term)
        ranks = self._words.ranks()
        signs = sorted(list(groups), key=lambda one: sign_rank(ranks, one))
        return [groups[sign] for sign in signs]


def filled(words, pattern, fills):
    if not is_list(fills, 0, MOST_SIGNS) or len(fills) != len([sign for sign in pattern if sign == HOLE]):
        raise NoList(fills)
    if not all([is_pattern(words, fill) for fill in fills]):
        raise NoList(fills)
    told = []
    number = 0
    for sign in pattern:
        if sign == HOLE:
            told.extend(fills[number])
            number += 1
        else:
            told.append(sign)
    return told
