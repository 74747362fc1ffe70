"""Steps of a term by rules, one behind the other."""

from termshelf.beginnings import beginnings_of
from termshelf.errors import Endless, NoList, NoNumber, NotThere, TooGreat
from termshelf.marks import is_list, is_whole
from termshelf.rules import MOST_RULES, need_numbered, need_rules
from termshelf.signs import spot_around
from termshelf.terms import MOST_SMALL, Term, made_term, need_few_signs, need_like, need_small, need_term

MOST_STEPS = 50

_MOST_MOST = 200


def _need_most(most):
    if not is_whole(most, 0, _MOST_MOST):
        raise NoNumber(most)


def _need_only(rules, only):
    if only is None:
        return
    if not is_list(only, 0, MOST_RULES):
        raise NoList(only)
    for number in only:
        if not rules.has_number(number):
            raise NotThere(number)


def _need_rules_and_term(rules, term):
    need_rules(rules)
    need_small(rules.words(), term)


def _beginnings_that_count(rules, only):
    return rules.beginnings() if only is None else rules.beginnings_among(only)


class Run:
    """A term that is rewritten step by step, by rules that are told by the words with which their left sides begin.

    It has just the signs of the term as it has become, and the places among them at which a rule may fit, in order.
    """

    def __init__(self, term, beginnings):
        self._places = term.words().table()
        self._beginnings = beginnings
        self._signs = term.signs()
        self._todo = list(range(len(self._signs)))
        self._next = None

    def step(self):
        """The first step, a tuple (spot, number, signs of the term behind), None where there is none."""
        places, beginnings, signs = self._places, self._beginnings, self._signs
        for at in self._todo:
            for number, rule in beginnings.rows_at(signs, at):
                behind = rule.signs_made(places, signs, at)
                if behind is not None:
                    spot, around = spot_around(places, signs, at)
                    # What stands ahead and not around stays as it is, and no rule fits there.
                    self._next = (behind, around + list(range(at, len(behind))))
                    return (spot, number, behind)
        return None

    def go(self):
        """Do the step that was told last."""
        self._signs, self._todo = self._next


def _told(term, step):
    """A step with the term in the place of its signs."""
    return (step[0], step[1], made_term(term.words(), step[2]))


def _steps_at(places, signs, at, beginnings):
    fits = [(number, rule.signs_made(places, signs, at)) for number, rule in beginnings.rows_at(signs, at)]
    return [(spot_around(places, signs, at)[0], number, behind) for number, behind in fits if behind is not None]


def steps_of(rules, term, *, only=None):
    _need_rules_and_term(rules, term)
    _need_only(rules, only)
    beginnings = _beginnings_that_count(rules, only)
    places, signs = term.words().table(), term.signs()
    return [_told(term, step) for at in range(len(signs)) for step in _steps_at(places, signs, at, beginnings)]


def first_step(rules, term, *, only=None):
    _need_rules_and_term(rules, term)
    _need_only(rules, only)
    step = Run(term, _beginnings_that_count(rules, only)).step()
    return None if step is None else _told(term, step)


def _run(term, most, beginnings):
    """The ending, the steps, and the one that isn't done any more, None where none is left."""
    run = Run(term, beginnings)
    steps = []
    while True:
        step = run.step()
        if step is None:
            return ("done", steps, None)
        if len(steps) == most:
            return ("most", steps, step)
        if len(step[2]) > MOST_SMALL:
            return ("wide", steps, step)
        steps.append(step)
        run.go()


def _rewritten(term, most, beginnings):
    ending, steps, _ = _run(term, most, beginnings)
    return (ending, [_told(term, step) for step in steps])


def rewritten(rules, term, *, most=MOST_STEPS, only=None):
    _need_rules_and_term(rules, term)
    _need_most(most)
    _need_only(rules, only)
    return _rewritten(term, most, _beginnings_that_count(rules, only))


def normal_of(rules, term, *, most=MOST_STEPS):
    _need_rules_and_term(rules, term)
    _need_most(most)
    ending, steps, step = _run(term, most, rules.beginnings())
    if ending == "most":
        raise Endless(most)
    if ending == "wide":
        raise TooGreat(len(step[2]))
    return made_term(term.words(), steps[-1][2]) if steps else term


def _is_spot(thing, spot):
    # Python holds True to be equal to 1.
    return isinstance(thing, tuple) and thing == spot and not any([isinstance(number, bool) for number in thing])


def _is_step(term, thing, step):
    """Whether any thing is a step of a term, or, where this is None, never."""
    if step is None or not isinstance(thing, tuple) or len(thing) != 3:
        return False
    spot, number, behind = thing
    if not _is_spot(spot, step[0]) or not is_whole(number, step[1], step[1]):
        return False
    return isinstance(behind, Term) and behind == made_term(term.words(), step[2])


def shows_rows(rules, term, thing):
    _need_rules_and_term(rules, term)
    if not isinstance(thing, (list, tuple)):
        return False
    run = Run(term, rules.beginnings())
    many = len(term)
    for row in thing:
        if many > MOST_SMALL or not _is_step(term, row, run.step()):
            return False
        many = len(row[2])
        run.go()
    return True


def _need_rows_and_term(rows, term):
    need_numbered(rows)
    need_term(term)
    if rows:
        need_like(rows[0][1].words(), term)
    for _, rule in rows:
        need_like(term.words(), rule)
    need_few_signs(term)


def plain_rewritten(rows, term, *, most=MOST_STEPS):
    _need_rows_and_term(rows, term)
    _need_most(most)
    return _rewritten(term, most, beginnings_of(rows))
