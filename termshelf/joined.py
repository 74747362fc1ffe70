"""Joined asks: of all, any or none of some asks, one within another."""

from termshelf.errors import NoAsk, NotThere
from termshelf.handing import need_shelf
from termshelf.marks import is_list
from termshelf.nomatch import why_not
from termshelf.terms import need_term_of

_MOST_ASKS = 6
_MOST_WITHIN = 4

# By the word of an ask: how many things it has.
_LONG = {"one": 3, "all": 2, "any": 2, "none": 2}


def _is_ask(thing):
    """Whether a thing has the form of a joined ask; what is within it is left out here."""
    if not isinstance(thing, tuple) or len(thing) == 0 or not isinstance(thing[0], str):
        return False
    if thing[0] not in _LONG or len(thing) != _LONG[thing[0]]:
        return False
    return thing[0] in ("one", "none") or is_list(thing[1], 0, _MOST_ASKS)


def _within(ask):
    """The asks that an ask has straight within it, in order."""
    if ask[0] == "one":
        return []
    return [ask[1]] if ask[0] == "none" else list(ask[1])


def _need_joined(shelf, ask, around):
    """Refuse what is no joined ask, part by part; the ways and terms are looked at where a shelf is told."""
    if around == _MOST_WITHIN or not _is_ask(ask):
        raise NoAsk(ask)
    if ask[0] == "one" and shelf is not None:
        shelf.need_ask(ask[1], ask[2])
    for part in _within(ask):
        _need_joined(shelf, part, around + 1)


def _joined_truth(word, truths):
    """Whether an ask tells a term, by whether each ask within it does."""
    if word == "all":
        return all(truths)
    if word == "any":
        return any(truths)
    return not truths[0]


def _truths(shelf, ask):
    """Of each kept term whether the ask tells it."""
    terms = shelf.terms()
    if ask[0] == "one":
        told = {str(answer.kept()): True for answer in shelf.ask(ask[1], ask[2])}
        return [str(term) in told for term in terms]
    rows = [_truths(shelf, part) for part in _within(ask)]
    return [_joined_truth(ask[0], [row[at] for row in rows]) for at in range(len(terms))]


def told_by(shelf, ask):
    need_shelf(shelf)
    _need_joined(shelf, ask, 0)
    return [term for term, truth in zip(shelf.terms(), _truths(shelf, ask)) if truth]


def _copied(thing):
    """Any thing, with lists and dicts of its own."""
    if isinstance(thing, list):
        return [_copied(part) for part in thing]
    if isinstance(thing, tuple):
        return tuple([_copied(part) for part in thing])
    if isinstance(thing, dict):
        return {key: _copied(thing[key]) for key in thing}
    return thing


def _pushed(ask):
    if ask[0] == "one":
        return _copied(ask)
    if ask[0] == "none":
        return _none_of(ask[1])
    return (ask[0], [_pushed(part) for part in ask[1]])


def _none_of(ask):
    """What the none of an ask becomes."""
    if ask[0] == "one":
        return ("none", _copied(ask))
    if ask[0] == "none":
        return _pushed(ask[1])
    return ("any" if ask[0] == "all" else "all", [_none_of(part) for part in ask[1]])


def pushed(ask):
    _need_joined(None, ask, 0)
    return _pushed(ask)


def _why(kept, ask):
    if ask[0] == "one":
        return (why_not(ask[1], ask[2], kept) is None, [])
    whys = [_why(kept, part) for part in _within(ask)]
    return (_joined_truth(ask[0], [truth for truth, _ in whys]), whys)


def why_told(shelf, term, ask):
    need_shelf(shelf)
    need_term_of(shelf.words(), term)
    if not shelf.has(term):
        raise NotThere(term)
    _need_joined(shelf, ask, 0)
    return _why(term.normal(), ask)
