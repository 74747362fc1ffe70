"""Papers that two terms don't meet, told and looked through."""

from termshelf.errors import NoList
from termshelf.marks import is_list, is_whole
from termshelf.reckoning import WHY_LONG, WHY_ROWS, Reckoning
from termshelf.signs import sign_places
from termshelf.terms import need_two_small
from termshelf.uniting import Uniting

_MOST_ROWS = 1000


def paper_apart(one, other):
    """The paper of two terms that were looked at already, None where they meet."""
    uniting = Uniting(one, other)
    if uniting.whole() is not None:
        return None
    if uniting.clash() is None:
        rows, turns = Reckoning(one, other, uniting).ring(uniting.ring())
        return ("ring", rows, turns)
    at, beside, number = uniting.clash()
    if number == 0:
        # Two words at one spot, as most terms have them, clash by a row that needs no other one.
        spot = one.spot_from(at)
        return ("clash", [((0, spot), (1, spot), ("over",))])
    return ("clash", Reckoning(one, other, uniting).clash(at, beside, number))


def why_apart(one, other):
    need_two_small(one, other)
    return paper_apart(one, other)


def _is_place(sides, thing):
    if not isinstance(thing, tuple) or len(thing) != 2 or not is_whole(thing[0], 0, 1):
        return False
    return sides[thing[0]].place_at(thing[1]) is not None


def _head(sides, place):
    return sides[place[0]].head_at(place[1])


def _is_word(sides, place):
    return sides[place[0]].words().has(_head(sides, place))


def _is_why(thing, number):
    """Whether a thing has the form of a why of the row of this number; the part that one tells is left out here."""
    if not isinstance(thing, tuple) or len(thing) == 0 or not isinstance(thing[0], str):
        return False
    if thing[0] not in WHY_LONG or len(thing) != WHY_LONG[thing[0]]:
        return False
    return all([is_whole(row, 0, number - 1) for row in thing[1:1 + WHY_ROWS[thing[0]]]])


def _part_holds(sides, a, b, row, k):
    above, beside, _ = row
    word = _head(sides, above)
    if not _is_word(sides, above) or _head(sides, beside) != word:
        return False
    if not is_whole(k, 0, sign_places(sides[0].words(), word) - 1):
        return False
    return a == (above[0], above[1] + (k,)) and b == (beside[0], beside[1] + (k,))


def _holds(sides, rows, number):
    """Whether the row of a number holds, all ahead of it holding."""
    row = rows[number]
    if not isinstance(row, tuple) or len(row) != 3:
        return False
    a, b, why = row
    if not _is_place(sides, a) or not _is_place(sides, b) or not _is_why(why, number):
        return False
    if why[0] == "over":
        return a[0] == 0 and b[0] == 1 and a[1] == b[1]
    if why[0] == "letter":
        return a[0] == b[0] and not _is_word(sides, a) and _head(sides, a) == _head(sides, b)
    first = rows[why[1]]
    if why[0] == "turned":
        return first[0] == b and first[1] == a
    if why[0] == "joined":
        second = rows[why[2]]
        return first[0] == a and second[1] == b and first[1] == second[0]
    return _part_holds(sides, a, b, first, why[2])


def _first_wrong(sides, rows):
    for number in range(len(rows)):
        if not _holds(sides, rows, number):
            return number
    return None


def first_wrong(one, other, rows):
    need_two_small(one, other)
    if not is_list(rows, 0, _MOST_ROWS):
        raise NoList(rows)
    return _first_wrong((one, other), rows)


def _clashes(sides, row):
    a, b, _ = row
    return _is_word(sides, a) and _is_word(sides, b) and _head(sides, a) != _head(sides, b)


def _is_turn(sides, rows, thing):
    """Whether a thing is a turn by itself, whatever its next one is."""
    if not isinstance(thing, tuple) or len(thing) != 2 or not is_whole(thing[0], 0, len(rows) - 1):
        return False
    side, spot = rows[thing[0]][1]
    if not _is_place(sides, (side, thing[1])):
        return False
    return len(thing[1]) > len(spot) and thing[1][:len(spot)] == spot


def _is_ring(sides, rows, turns):
    if not isinstance(turns, (list, tuple)) or len(turns) == 0:
        return False
    if not all([_is_turn(sides, rows, turn) for turn in turns]):
        return False
    # The turn ahead of the first one is the last one.
    aheads = [turns[at - 1] for at in range(len(turns))]
    return all([(rows[ahead[0]][1][0], ahead[1]) == rows[turn[0]][0] for ahead, turn in zip(aheads, turns)])


def shows_apart(one, other, thing):
    need_two_small(one, other)
    sides = (one, other)
    if not isinstance(thing, tuple) or len(thing) not in (2, 3) or not is_list(thing[1], 1, _MOST_ROWS):
        return False
    rows = thing[1]
    if _first_wrong(sides, rows) is not None:
        return False
    if len(thing) == 2:
        return thing[0] == "clash" and _clashes(sides, rows[-1])
    return thing[0] == "ring" and _is_ring(sides, rows, thing[2])
