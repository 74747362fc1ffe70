"""Where rules meet, and whether what comes of it is rewritten to the same."""

from termshelf.errors import NoRow, TooGreat, Unlike
from termshelf.puttings import met, signs_put
from termshelf.rewriting import MOST_STEPS, normal_of
from termshelf.rules import need_numbered, need_rules
from termshelf.terms import MOST_TOLD, Term, made_term


def _peak(left, whole, asked):
    """The most general term of a left side at whose part a meeting stands, which the part becomes by a putting."""
    words = left.words()
    pairs = asked.pairs()
    number = len(whole.letters())
    for letter in left.letters():
        # The meeting says nothing of a letter that doesn't stand in the part, so it becomes one that stands nowhere.
        if letter not in pairs:
            pairs[letter] = made_term(words, [f"N{number}"])
            number += 1
    return made_term(words, signs_put(left.signs(), pairs)).normal()


def _need_told(term):
    if len(term) > MOST_TOLD:
        raise TooGreat(len(term))
    return term


def _row(first, spot, second, whole, asked):
    """The meeting of two numbered rules at a spot, by that of the part there and of the second one's left side."""
    peak = _need_told(_peak(first[1].left(), whole, asked))
    at = peak.place_at(spot)
    one = _need_told(first[1].made_of(peak, 0, peak))
    other = _need_told(second[1].made_of(peak, at, peak.part_from(at)))
    return (first[0], spot, second[0], peak, one, other)


def _rows_of(first, search):
    """All meetings of a numbered rule with others, which a function of a part of its left side finds."""
    left = first[1].left()
    told = []
    for at, spot in enumerate(left.spots()):
        part = left.part_from(at)
        if left.words().has(part.head()):
            met_there = [row for row in search(part) if spot != () or row[0] > first[0]]
            told.extend([_row(first, spot, (number, rule), whole, asked) for number, rule, whole, asked in met_there])
    return told


def _meetings(rows, search):
    return [row for first in rows for row in _rows_of(first, search)]


def meetings(rules):
    need_rules(rules)

    def search(part):
        found = rules.found_by("meets", part)
        return [(number, rule, answer.whole(), answer.asked()) for number, rule, answer in found]

    return _meetings(rules.rules(), search)


def plain_meetings(rows):
    need_numbered(rows)
    for row in rows:
        if row[1].words() != rows[0][1].words():
            raise Unlike(row[1].left())
    rules = list(rows)

    def search(part):
        shown = [(number, rule, met(part, rule.left())) for number, rule in rules]
        return [(number, rule, told[0], told[1]) for number, rule, told in shown if told is not None]

    return _meetings(rules, search)


def _is_meeting_spot(rule, thing):
    """Whether any thing is a spot of a rule's left side that bears a word."""
    left = rule.left()
    return left.place_at(thing) is not None and left.words().has(left.head_at(thing))


def _is_end(rule, peak, spot, thing):
    at = peak.place_at(spot)
    return isinstance(thing, Term) and thing == rule.made_of(peak, at, peak.part_from(at))


def _shows_met(rules, thing):
    if not isinstance(thing, tuple) or len(thing) != 6:
        return False
    first, spot, second, peak, one, other = thing
    if not rules.has_number(first) or not rules.has_number(second):
        return False
    rule = rules.rule_of(first)
    if not _is_meeting_spot(rule, spot) or (spot == () and second <= first):
        return False
    if not isinstance(peak, Term) or peak.words() != rules.words() or not peak.is_normal():
        return False
    # Only where the first rule fits the peak it is sure that this has the spot.
    return _is_end(rule, peak, (), one) and _is_end(rules.rule_of(second), peak, spot, other)


def shows_met(rules, thing):
    need_rules(rules)
    return _shows_met(rules, thing)


def joins(rules, thing, *, most=MOST_STEPS):
    need_rules(rules)
    if not _shows_met(rules, thing):
        raise NoRow(thing)
    return normal_of(rules, thing[4], most=most) == normal_of(rules, thing[5], most=most)
