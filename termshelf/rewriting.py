"""Steps of a term by rules, one behind the other."""

from termshelf.errors import Endless, NoList, NoNumber, NotThere, TooGreat
from termshelf.marks import is_list, is_whole
from termshelf.rules import MOST_RULES, need_numbered, need_rules
from termshelf.terms import MOST_SMALL, Term, need_few_signs, need_like, need_small, need_term

MOST_STEPS = 50

_MOST_MOST = 200


def _need_most(most):
    if not is_whole(most, 0, _MOST_MOST):
        raise NoNumber(most)


def _need_only(rules, only):
    if only is None:
        return
    if not is_list(only, 0, MOST_RULES):
        raise NoList(only)
    for number in only:
        if not rules.has_number(number):
            raise NotThere(number)


def _need_rules_and_term(rules, term):
    need_rules(rules)
    need_small(rules.words(), term)


class Search:
    """Called with a part it tells the rules that fit there, by rising numbers; they are found by the shelf.

    While a term is rewritten the rules stay as they are, so what was found of a part is kept until the same one comes.
    """

    def __init__(self, rules, only):
        self._kept = rules
        self._only = only
        self._known = {}

    def __call__(self, part):
        text = str(part)
        if text not in self._known:
            found = self._kept.found_by("above", part)
            self._known[text] = [(number, rule) for number, rule, _ in found if self._counts(number)]
        return self._known[text]

    def _counts(self, number):
        return self._only is None or number in self._only


def _steps_at(term, at, spot, search):
    part = term.part_from(at)
    if not term.words().has(part.head()):
        # No left side is a letter, so none becomes one.
        return []
    steps = [(spot, number, rule.made_of(term, at, part)) for number, rule in search(part)]
    return [step for step in steps if step[2] is not None]


def _first_step(term, search):
    for at, spot in enumerate(term.spots()):
        steps = _steps_at(term, at, spot, search)
        if steps:
            return steps[0]
    return None


def steps_of(rules, term, *, only=None):
    _need_rules_and_term(rules, term)
    _need_only(rules, only)
    search = Search(rules, only)
    return [step for at, spot in enumerate(term.spots()) for step in _steps_at(term, at, spot, search)]


def first_step(rules, term, *, only=None):
    _need_rules_and_term(rules, term)
    _need_only(rules, only)
    return _first_step(term, Search(rules, only))


def _run(term, most, search):
    """The ending, the rows, and the step that isn't done any more, None where none is left."""
    rows = []
    while True:
        step = _first_step(term, search)
        if step is None:
            return ("done", rows, None)
        if len(rows) == most:
            return ("most", rows, step)
        term = step[2]
        if len(term) > MOST_SMALL:
            return ("wide", rows, step)
        rows.append(step)


def rewritten(rules, term, *, most=MOST_STEPS, only=None):
    _need_rules_and_term(rules, term)
    _need_most(most)
    _need_only(rules, only)
    ending, rows, _ = _run(term, most, Search(rules, only))
    return (ending, rows)


def normal_of(rules, term, *, most=MOST_STEPS):
    _need_rules_and_term(rules, term)
    _need_most(most)
    ending, rows, step = _run(term, most, Search(rules, None))
    if ending == "most":
        raise Endless(most)
    if ending == "wide":
        raise TooGreat(len(step[2]))
    return rows[-1][2] if rows else term


def _is_step(term, thing, step):
    """Whether any thing is a step, or, where this is None, never."""
    if step is None or not isinstance(thing, tuple) or len(thing) != 3:
        return False
    spot, number, behind = thing
    # Looked at as a spot and as a number first, since Python holds True to be equal to 1.
    if term.place_at(spot) is None or not is_whole(number, step[1], step[1]):
        return False
    return spot == step[0] and isinstance(behind, Term) and behind == step[2]


def shows_rows(rules, term, thing):
    _need_rules_and_term(rules, term)
    if not isinstance(thing, (list, tuple)):
        return False
    search = Search(rules, None)
    for row in thing:
        if len(term) > MOST_SMALL or not _is_step(term, row, _first_step(term, search)):
            return False
        term = row[2]
    return True


def _need_rows_and_term(rows, term):
    need_numbered(rows)
    need_term(term)
    if rows:
        need_like(rows[0][1].words(), term)
    for _, rule in rows:
        need_like(term.words(), rule)
    need_few_signs(term)


def plain_rewritten(rows, term, *, most=MOST_STEPS):
    _need_rows_and_term(rows, term)
    _need_most(most)
    rules = list(rows)
    ending, told, _ = _run(term, most, lambda part: rules)
    return (ending, told)
