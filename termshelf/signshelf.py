"""The shelf that keeps its terms in a tree by signs, too, and finds its candidates there."""

from termshelf.shelves import MOST_KEPT, Shelf
from termshelf.signtree import SignTree


class SignShelf(Shelf):
    """A shelf that goes through what the tree's walk goes to."""

    def __init__(self, words, *, most=MOST_KEPT):
        super().__init__(words, most=most)
        self._tree = SignTree(words)

    def index_put(self, term):
        self._tree.put(term)

    def index_take(self, term):
        self._tree.take(term)

    def empty_one(self):
        return SignShelf(self.words(), most=self.most())

    def candidates(self, way, term):
        return self._tree.ends(way, term)

    def walk(self, way, term):
        self.need_ask(way, term)
        return self._tree.walk(way, term)

    def steps(self, way, term):
        return len(self.walk(way, term))

    def tree(self):
        return SignTree(self.words(), self.terms())
