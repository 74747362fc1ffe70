"""The tree by signs: terms by the beginnings of the signs of their normal forms."""

from termshelf.errors import NoList, NotThere, TooMany
from termshelf.marks import is_list
from termshelf.nomatch import need_way
from termshelf.signs import need_words, sign_rank
from termshelf.signwalk import SignWalk
from termshelf.terms import need_small

_MOST_TERMS = 100


def _bracketed(nested):
    """Nested lists as a text."""
    return " ".join([f"{sign}({_bracketed(below)})" if below else sign for sign, below in nested])


class SignTree:
    """A tree of terms; a node is told by its path, the tuple of the signs that lead to it.

    Of each node there are the signs of its children, in order, and how many kept terms are beneath it; of a node whose
    path is all signs of a kept term there is this term.
    """

    def __init__(self, words, terms=()):
        need_words(words)
        if not is_list(terms, 0, _MOST_TERMS):
            raise NoList(terms)
        self._words = words
        self._behind = {(): []}
        self._many = {(): 0}
        self._terms = {}
        for term in terms:
            self.put(term)

    def put(self, term):
        need_small(self._words, term)
        signs = tuple(term.normal_signs())
        if signs in self._terms:
            return False
        if len(self._terms) == _MOST_TERMS:
            raise TooMany(_MOST_TERMS + 1)
        self._terms[signs] = term.normal()
        self._many[()] += 1
        path = ()
        for sign in signs:
            self._grow(path, sign)
            path = path + (sign,)
        return True

    def take(self, term):
        need_small(self._words, term)
        signs = tuple(term.normal_signs())
        if signs not in self._terms:
            return False
        del self._terms[signs]
        self._many[()] -= 1
        path = ()
        for sign in signs:
            self._shrink(path, sign)
            path = path + (sign,)
        return True

    def nodes(self):
        return self._nodes_from(())

    def has_node(self, thing):
        # Things that are no texts may be none that a dict can be asked for.
        if not isinstance(thing, tuple) or not all([isinstance(sign, str) for sign in thing]):
            return False
        return thing in self._many

    def terms(self):
        return self._terms_from(())

    def beneath(self, path):
        self._need_node(path)
        return self._terms_from(path)

    def count_beneath(self, path):
        self._need_node(path)
        return self._many[path]

    def jumps(self, path):
        self._need_node(path)
        return self._nodes_behind(path, 1)

    def nested(self):
        return self._nested_from(())

    def __len__(self):
        return len(self._terms)

    def __eq__(self, other):
        return isinstance(other, SignTree) and self._words == other._words and self._many == other._many

    def __str__(self):
        return str(_bracketed(self._nested_from(())))

    def __repr__(self):
        return f"SignTree({str(self)!r})"

    def walk(self, way, term):
        need_way(way)
        need_small(self._words, term)
        return SignWalk(self, way, term).paths()

    def ends(self, way, term):
        need_way(way)
        need_small(self._words, term)
        return [self._terms[path] for path in SignWalk(self, way, term).whole_paths()]

    def signs_behind(self, path):
        """The signs of a node's children, in order."""
        return list(self._behind[path])

    def _need_node(self, path):
        if not self.has_node(path):
            raise NotThere(path)

    def _grow(self, path, sign):
        """One more term beneath a node's child, which may be a new one."""
        below = path + (sign,)
        if below not in self._many:
            self._behind[below] = []
            self._many[below] = 0
            self._behind[path].append(sign)
            if len(self._behind[path]) > 1:
                ranks = self._words.ranks()
                self._behind[path] = sorted(self._behind[path], key=lambda one: sign_rank(ranks, one))
        self._many[below] += 1

    def _shrink(self, path, sign):
        """One term fewer beneath a node's child, which goes with the last one."""
        below = path + (sign,)
        self._many[below] -= 1
        if self._many[below] == 0:
            del self._behind[below], self._many[below]
            # The node itself may have gone ahead of its child.
            if path in self._behind:
                self._behind[path].remove(sign)

    def _nodes_from(self, path):
        """The paths of a node and of all beneath it, in order."""
        told = [path]
        for sign in self._behind[path]:
            told.extend(self._nodes_from(path + (sign,)))
        return told

    def _nodes_behind(self, path, lacking):
        """The paths of the nodes beneath one behind which so many terms more stand than in its own path."""
        if lacking == 0:
            return [path]
        places = self._words.table()
        told = []
        for sign in self._behind[path]:
            told.extend(self._nodes_behind(path + (sign,), lacking - 1 + places.get(sign, 0)))
        return told

    def _nested_from(self, path):
        return [(sign, self._nested_from(path + (sign,))) for sign in self._behind[path]]

    def _terms_from(self, path):
        return [self._terms[below] for below in self._nodes_from(path) if below in self._terms]
