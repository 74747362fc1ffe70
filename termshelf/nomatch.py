"""Why one term is no instance of another, why two are no variants, and the like by a way of asking."""

from termshelf.apart import paper_apart, shows_apart
from termshelf.errors import NoWay
from termshelf.terms import need_two_small

WAYS = ("instances", "above", "meets", "variants")


def need_way(thing):
    if thing not in WAYS:
        raise NoWay(thing)


def first_unlike(ask, kept):
    """The first bar, of terms that were looked at already."""
    table = ask.words().table()
    signs, ends = kept.signs(), kept.ends()
    first = {}
    at = 0
    for number, sign in enumerate(ask.signs()):
        if sign in table:
            if signs[at] != sign:
                return ("unlike", ask.spot_from(number))
            at += 1
        else:
            part = signs[at:ends[at]]
            ahead = first.setdefault(sign, (number, part))
            if ahead[1] != part:
                return ("two", ask.spot_from(ahead[0]), ask.spot_from(number))
            at = ends[at]
    return None


def _is_of_both(ask, kept, thing):
    return ask.place_at(thing) is not None and kept.place_at(thing) is not None


def _bars_unlike(ask, kept, spot):
    sign = ask.head_at(spot)
    return ask.words().has(sign) and kept.head_at(spot) != sign


def _bars_two(ask, kept, first, spot):
    sign = ask.head_at(spot)
    if ask.words().has(sign) or ask.head_at(first) != sign:
        return False
    return kept.part_at(first) != kept.part_at(spot)


def _bars(ask, kept, thing):
    if not isinstance(thing, tuple) or len(thing) not in (2, 3):
        return False
    if not all([_is_of_both(ask, kept, spot) for spot in thing[1:]]):
        return False
    if len(thing) == 2:
        return thing[0] == "unlike" and _bars_unlike(ask, kept, thing[1])
    return thing[0] == "two" and _bars_two(ask, kept, thing[1], thing[2])


def why_unlike(ask, kept):
    need_two_small(ask, kept)
    return first_unlike(ask, kept)


def shows_unlike(ask, kept, thing):
    need_two_small(ask, kept)
    return _bars(ask, kept, thing)


def why_no_variant(one, other):
    need_two_small(one, other)
    for at, (left, right) in enumerate(zip(one.normal_signs(), other.normal_signs())):
        if left != right:
            return ("unlike", one.spot_from(at), left, right)
    return None


def shows_no_variant(one, other, thing):
    bar = why_no_variant(one, other)
    if not isinstance(thing, tuple) or len(thing) != 4:
        return False
    # Looked at as a spot first, since Python holds True to be equal to 1.
    return one.place_at(thing[1]) is not None and thing == bar


def why_not(way, ask, kept):
    need_way(way)
    need_two_small(ask, kept)
    if way == "instances":
        return first_unlike(ask, kept)
    if way == "above":
        return first_unlike(kept, ask)
    if way == "meets":
        return paper_apart(ask, kept)
    return why_no_variant(ask, kept)


def shows_not(way, ask, kept, thing):
    need_way(way)
    need_two_small(ask, kept)
    if way == "instances":
        return _bars(ask, kept, thing)
    if way == "above":
        return _bars(kept, ask, thing)
    if way == "meets":
        return shows_apart(ask, kept, thing)
    return shows_no_variant(ask, kept, thing)
