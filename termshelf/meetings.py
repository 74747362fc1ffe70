"""Where rules meet, and whether what comes of it is rewritten to the same."""

from termshelf.beginnings import rows_by_heads
from termshelf.errors import NoRow, TooGreat, Unlike
from termshelf.puttings import with_given
from termshelf.rewriting import MOST_STEPS, normal_of
from termshelf.rules import need_numbered, need_rules
from termshelf.signs import normal_names
from termshelf.terms import MOST_TOLD, Term, made_term
from termshelf.uniting import united

# Neither a word nor any letter of a uniting begins with this.
_ELSE = "+"


def _row(first, at, second, uniting):
    """The meeting of two numbered rules, by what the part at a place of the first left side and the second became."""
    left = first[1].left()
    signs = left.signs()
    given = uniting.becoming(0)
    for letter in left.letters():
        # The part says nothing of a letter that doesn't stand in it, so this becomes one that stands nowhere else.
        given.setdefault(letter, [_ELSE + letter])
    ahead = with_given(signs[:at], given)
    behind = with_given(signs[left.ends()[at]:], given)
    peak = ahead + uniting.whole() + behind
    one = with_given(first[1].right().signs(), given)
    other = ahead + with_given(second[1].right().signs(), uniting.becoming(1)) + behind
    words = left.words()
    # Each letter of the ends stands in the peak, too.
    names = normal_names(words.table(), peak)
    terms = [made_term(words, [names.get(sign, sign) for sign in _need_told(told)]) for told in (peak, one, other)]
    return (first[0], left.spot_from(at), second[0], terms[0], terms[1], terms[2])


def _need_told(signs):
    if len(signs) > MOST_TOLD:
        raise TooGreat(len(signs))
    return signs


def _rows_of(first, by_heads):
    """All meetings of a numbered rule with others, which a table has by the words that their left sides begin with."""
    number, rule = first
    left = rule.left()
    told = []
    for at, sign in enumerate(left.signs()):
        others = [other for other in by_heads.get(sign, ()) if at > 0 or other[0] > number]
        part = left.part_from(at) if others else None
        for second in others:
            uniting = united(part, second[1].left())
            if uniting is not None:
                told.append(_row(first, at, second, uniting))
    return told


def _meetings(rows, by_heads):
    return [row for first in rows for row in _rows_of(first, by_heads)]


def meetings(rules):
    need_rules(rules)
    return _meetings(rules.rules(), rules.by_heads())


def plain_meetings(rows):
    need_numbered(rows)
    for row in rows:
        if row[1].words() != rows[0][1].words():
            raise Unlike(row[1].left())
    return _meetings(rows, rows_by_heads(rows))


def _is_meeting_spot(rule, thing):
    """Whether any thing is a spot of a rule's left side that bears a word."""
    left = rule.left()
    return left.place_at(thing) is not None and left.words().has(left.head_at(thing))


def _is_end(rule, peak, spot, thing):
    return isinstance(thing, Term) and thing == rule.made_of(peak, peak.place_at(spot))


def _shows_met(rules, thing):
    if not isinstance(thing, tuple) or len(thing) != 6:
        return False
    first, spot, second, peak, one, other = thing
    if not rules.has_number(first) or not rules.has_number(second):
        return False
    rule = rules.rule_of(first)
    if not _is_meeting_spot(rule, spot) or (spot == () and second <= first):
        return False
    if not isinstance(peak, Term) or peak.words() != rules.words() or not peak.is_normal():
        return False
    # Only where the first rule fits the peak it is sure that this has the spot.
    return _is_end(rule, peak, (), one) and _is_end(rules.rule_of(second), peak, spot, other)


def shows_met(rules, thing):
    need_rules(rules)
    return _shows_met(rules, thing)


def joins(rules, thing, *, most=MOST_STEPS):
    need_rules(rules)
    if not _shows_met(rules, thing):
        raise NoRow(thing)
    return normal_of(rules, thing[4], most=most) == normal_of(rules, thing[5], most=most)
