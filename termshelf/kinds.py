"""The kinds of shelf by their words."""

from termshelf.putshelf import PutShelf
from termshelf.shelves import PlainShelf
from termshelf.signshelf import SignShelf


def shelf_of_kind(kind, words, most):
    """A shelf of a kind that is told by its word, `plain`, `signs` or `puttings`."""
    if kind == "plain":
        return PlainShelf(words, most=most)
    if kind == "signs":
        return SignShelf(words, most=most)
    return PutShelf(words, most=most)


def kind_of(thing):
    """The word of a shelf's kind, None of any thing that is no shelf of these kinds."""
    if isinstance(thing, PlainShelf):
        return "plain"
    if isinstance(thing, SignShelf):
        return "signs"
    return "puttings" if isinstance(thing, PutShelf) else None
