"""The shelf that finds its candidates by the tree of puttings of its terms."""

from termshelf.putbars import first_bar
from termshelf.puttree import PutNode
from termshelf.shelves import MOST_KEPT, Shelf


def _nodes_from(node, path):
    """The node and all beneath it, each with its path, ahead of those beneath it, in order."""
    told = [(path, node)]
    for number, child in enumerate(node.children()):
        told.extend(_nodes_from(child, path + (number,)))
    return told


def _gone_to(node, path, way, term):
    """The node and all that is gone to beneath it, each as a tuple of its path, itself, and what bars it."""
    bar = first_bar(node.shape(), way, term)
    told = [(path, node, bar)]
    if bar is None:
        for number, child in enumerate(node.children()):
            told.extend(_gone_to(child, path + (number,), way, term))
    return told


class PutShelf(Shelf):
    """A shelf that goes through the nodes whose fathers aren't barred."""

    def __init__(self, words, *, most=MOST_KEPT):
        super().__init__(words, most=most)
        # The tree is made when it is first asked for, and made anew when terms came or went.
        self._node = None

    def index_put(self, term):
        self._node = None

    def index_take(self, term):
        self._node = None

    def empty_one(self):
        return PutShelf(self.words(), most=self.most())

    def candidates(self, way, term):
        leaves = [node for _, node, bar in self._gone_nodes(way, term) if bar is None and node.children() == []]
        return [leaf.terms()[0] for leaf in leaves]

    def walk(self, way, term):
        self.need_ask(way, term)
        return [(path, bar) for path, _, bar in self._gone_nodes(way, term)]

    def steps(self, way, term):
        return len(self.walk(way, term))

    def tree(self):
        terms = self.terms()
        if self._node is None and terms:
            self._node = PutNode(terms)
        return self._node

    def nodes(self):
        node = self.tree()
        return [] if node is None else [(path, below.pattern()) for path, below in _nodes_from(node, ())]

    def _gone_nodes(self, way, term):
        node = self.tree()
        return [] if node is None else _gone_to(node, (), way, term)
