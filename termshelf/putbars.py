"""What bars an ask from all terms that fit a pattern."""

from termshelf.errors import NoList
from termshelf.nomatch import first_unlike, need_way
from termshelf.puttree import HOLE, Shape, is_pattern
from termshelf.signs import part_end
from termshelf.terms import MOST_SMALL, made_term, need_small
from termshelf.uniting import united

# What bars an instance, as nomatch.py calls it, and as it is called here.
_BARS = {"unlike": "sign", "two": "letter"}


def _bar_of_variants(pattern, ask):
    signs, ends = ask.normal_signs(), ask.ends()
    at = 0
    for number, sign in enumerate(pattern.signs()):
        if sign == HOLE:
            at = ends[at]
        elif signs[at] != sign:
            return ("sign", pattern.spot_from(number))
        else:
            at += 1
    return None


def _bar_of_above(pattern, ask):
    bar = first_unlike(pattern, ask)
    return None if bar is None else (_BARS[bar[0]],) + bar[1:]


def _parts_clash(places, one, other):
    """Whether two parts of patterns have unlike signs at a spot, both the same signs at all spots above it."""
    at = beside = 0
    while at < len(one):
        if one[at] == HOLE or other[beside] == HOLE:
            at = part_end(places, one, at)
            beside = part_end(places, other, beside)
        elif one[at] != other[beside]:
            return True
        else:
            at += 1
            beside += 1
    return False


def _bar_of_instances(pattern, ask):
    table = ask.words().table()
    signs, ends = pattern.signs(), pattern.ends()
    asked, asked_ends = ask.signs(), ask.ends()
    parts = {}
    number = at = 0
    while number < len(asked):
        sign = asked[number]
        if sign not in table:
            part = signs[at:ends[at]]
            earlier = parts.get(sign, [])
            for ahead, other in earlier:
                if _parts_clash(table, other, part):
                    return ("letter", ask.spot_from(ahead), ask.spot_from(number))
            parts[sign] = earlier + [(number, part)]
            number, at = number + 1, ends[at]
        elif signs[at] == HOLE:
            # Of what the ask has beneath a hole the pattern has nothing.
            number, at = asked_ends[number], at + 1
        elif signs[at] != sign:
            return ("sign", ask.spot_from(number))
        else:
            number, at = number + 1, at + 1
    return None


def _bar_of_meets(pattern, ask):
    return ("apart",) if united(ask, pattern) is None else None


def first_bar(shape, way, ask):
    """The first bar, of the shape of a pattern and an ask that were looked at already."""
    if way == "variants":
        return _bar_of_variants(shape.with_holes(), ask)
    if way == "above":
        return _bar_of_above(shape.with_letters(), ask)
    if way == "instances":
        return _bar_of_instances(shape.with_holes(), ask)
    return _bar_of_meets(shape.with_letters(), ask)


def _need_pattern_and_ask(words, pattern, way, term):
    if not is_pattern(words, pattern) or len(pattern) > MOST_SMALL:
        raise NoList(pattern)
    need_way(way)
    need_small(words, term)


def bar_of(words, pattern, way, term):
    _need_pattern_and_ask(words, pattern, way, term)
    return first_bar(Shape(words, pattern), way, term)


def _bars_by_sign(pattern, way, ask, spot):
    if pattern.place_at(spot) is None or ask.place_at(spot) is None:
        return False
    sign = pattern.head_at(spot)
    if sign == HOLE:
        return False
    if way == "variants":
        return ask.normal().head_at(spot) != sign
    barring = sign if way == "above" else ask.head_at(spot)
    return ask.words().has(barring) and ask.head_at(spot) != sign


def _bars_by_letter(pattern, way, ask, first, spot):
    places = [term.place_at(place) for term in (pattern, ask) for place in (first, spot)]
    if None in places or places[0] >= places[1]:
        return False
    asking, other = (pattern, ask) if way == "above" else (ask, pattern)
    letter = asking.head_at(spot)
    if letter == HOLE or ask.words().has(letter) or asking.head_at(first) != letter:
        return False
    # Parts without holes clash just where they are unlike.
    return _parts_clash(ask.words().table(), other.part_at(first).signs(), other.part_at(spot).signs())


def shows_bar(words, pattern, way, term, thing):
    _need_pattern_and_ask(words, pattern, way, term)
    if way == "meets":
        return isinstance(thing, tuple) and thing == first_bar(Shape(words, pattern), way, term)
    if not isinstance(thing, tuple) or len(thing) not in (2, 3):
        return False
    whole = made_term(words, list(pattern))
    if len(thing) == 2:
        return thing[0] == "sign" and _bars_by_sign(whole, way, term, thing[1])
    return thing[0] == "letter" and way != "variants" and _bars_by_letter(whole, way, term, thing[1], thing[2])
