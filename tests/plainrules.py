"""Rules, meetings and rows that cover rows told once more, as plainly as can be, on the nested tuples of plain.py.

A rule is a tuple of two nested tuples, some rules are a list of tuples (number, rule).
"""

import itertools

from tests import plain


def trees_of(rows):
    """The rules of a list of tuples (number, rule), as nested tuples."""
    return [(number, (plain.tree(rule.left()), plain.tree(rule.right()))) for number, rule in rows]


def with_part(tree, spot, part):
    if spot == ():
        return part
    parts = list(tree)
    parts[spot[0] + 1] = with_part(parts[spot[0] + 1], spot[1:], part)
    return tuple(parts)


def made_of(rule, tree, spot):
    """What a rule makes of a term at a spot, or None."""
    pairs = plain.instance(rule[0], plain.parts_of(tree)[spot], {})
    return None if pairs is None else with_part(tree, spot, plain.put(rule[1], pairs))


def steps(rules, tree):
    told = [(spot, number, made_of(rule, tree, spot)) for spot in plain.parts_of(tree) for number, rule in rules]
    return [step for step in told if step[2] is not None]


def rewritten(rules, tree, most):
    """The ending and the steps, and the step that isn't done any more."""
    rows = []
    while True:
        behind = steps(rules, tree)
        if not behind:
            return ("done", rows, None)
        if len(rows) == most:
            return ("most", rows, behind[0])
        if len(plain.signs_of(behind[0][2])) > 16:
            return ("wide", rows, behind[0])
        rows.append(behind[0])
        tree = behind[0][2]


def _with_own_letters(tree, mark):
    return plain.put(tree, {letter: mark + letter for letter in plain.letters_of(tree)})


def peak(left, spot, other):
    """What a left side must become to have an instance of the other one at a spot, or None.

    It is met with a term that has words and unlike letters alone around the other one.
    """
    around = _with_own_letters(other, "o")
    for long in reversed(range(len(spot))):
        above = plain.parts_of(left)[spot[:long]]
        parts = [f"x{long}_{number}" for number in range(len(above) - 1)]
        parts[spot[long]] = around
        around = (above[0],) + tuple(parts)
    return plain.whole(left, around)


def meetings(rules):
    told = []
    for first, rule in rules:
        for spot, part in plain.parts_of(rule[0]).items():
            for second, other in rules:
                if isinstance(part, str) or (spot == () and second <= first):
                    continue
                top = peak(rule[0], spot, other[0])
                if top is not None:
                    told.append((first, spot, second, top, made_of(rule, top, ()), made_of(other, top, spot)))
    return told


def texts_of(row):
    """A meeting with texts in the place of its terms."""
    return row[:3] + tuple([" ".join(plain.signs_of(tree)) for tree in row[3:]])


def covered(row, other, places):
    """The dict by which the row's terms become those at the places, or None."""
    pairs = {}
    for tree, place in zip(row, places):
        if pairs is not None:
            pairs = plain.instance(tree, other[place], pairs)
    return pairs


def covers(row, other):
    """The dict and the least list of places, or None: by trying all lists."""
    for places in itertools.product(range(len(other)), repeat=len(row)):
        pairs = covered(row, other, places)
        if pairs is not None:
            return pairs, list(places)
    return None


def tries(row, other, ahead=()):
    """The tries behind some places."""
    if covers(row, other) is not None:
        return None
    told = []
    for place in range(len(other)):
        places = ahead + (place,)
        told.append(None if covered(row, other, places) is None else tries_behind(row, other, places))
    return told


def tries_behind(row, other, places):
    """The tries where the row's first terms have become those at the places, which all of its terms can't."""
    told = []
    for place in range(len(other)):
        good = covered(row, other, places + (place,)) is not None
        told.append(tries_behind(row, other, places + (place,)) if good else None)
    return told


def uncovered(rows):
    """Row by row, each one out that another one makes needless; of such as cover one another the first one stays."""
    told = []
    for number, row in enumerate(rows):
        above = [place for place, other in enumerate(rows) if place != number and covers(other, row) is not None]
        if all(covers(row, rows[place]) is not None and place > number for place in above):
            told.append(number)
    return told
