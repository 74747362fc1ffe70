"""The points told once more, as plainly as can be, on nested tuples: to hold the program against."""

import itertools


def tree_of(words, signs):
    """A letter as a text, another term as a tuple of its word and its parts."""
    rest = list(signs)

    def next_tree():
        sign = rest.pop(0)
        if sign not in words.names():
            return sign
        return (sign,) + tuple([next_tree() for _ in range(words.places(sign))])

    return next_tree()


def tree(term):
    return tree_of(term.words(), term.signs())


def signs_of(tree):
    if isinstance(tree, str):
        return [tree]
    return [tree[0]] + [sign for part in tree[1:] for sign in signs_of(part)]


def parts_of(tree):
    """All parts by their spots, in reading order."""
    told = {(): tree}
    if not isinstance(tree, str):
        for number, part in enumerate(tree[1:]):
            told.update({(number,) + spot: below for spot, below in parts_of(part).items()})
    return told


def head_of(tree):
    return tree if isinstance(tree, str) else tree[0]


def put(tree, pairs):
    if isinstance(tree, str):
        return pairs.get(tree, tree)
    return (tree[0],) + tuple([put(part, pairs) for part in tree[1:]])


def put_each(tree, become):
    """A function's text for each letter, also for one that comes again."""
    if isinstance(tree, str):
        return become(tree)
    return (tree[0],) + tuple([put_each(part, become) for part in tree[1:]])


def letters_of(tree):
    return list(dict.fromkeys(part for part in parts_of(tree).values() if isinstance(part, str)))


def normal(tree):
    return put(tree, {letter: f"N{number}" for number, letter in enumerate(letters_of(tree))})


def instance(ask, kept, pairs):
    """The dict by which the ask becomes the kept term, or None."""
    if isinstance(ask, str):
        told = dict(pairs)
        told[ask] = kept
        return told if ask not in pairs or pairs[ask] == kept else None
    if isinstance(kept, str) or kept[0] != ask[0]:
        return None
    for part, other in zip(ask[1:], kept[1:]):
        if pairs is not None:
            pairs = instance(part, other, pairs)
    return pairs


def _sided(tree, side):
    return put(tree, {letter: f"{side}{letter}" for letter in letters_of(tree)})


def whole(one, other):
    """The meeting, or None: by putting one letter's term after another into all."""
    pairs = [(_sided(one, 0), _sided(other, 1))]
    told = _sided(one, 0)
    while pairs:
        left, right = pairs.pop()
        if left == right:
            continue
        if not isinstance(left, str) and not isinstance(right, str):
            if left[0] != right[0]:
                return None
            pairs.extend(zip(left[1:], right[1:]))
            continue
        letter, thing = (left, right) if isinstance(left, str) else (right, left)
        if letter in letters_of(thing):
            return None
        pairs = [(put(a, {letter: thing}), put(b, {letter: thing})) for a, b in pairs]
        told = put(told, {letter: thing})
    return normal(told)


def bars(ask, kept):
    """All bars of 44, as Python writes them, so that True is not 1."""
    asked, keeping = parts_of(ask), parts_of(kept)
    both = [spot for spot in asked if spot in keeping]
    told = []
    for spot in both:
        if not isinstance(asked[spot], str) and head_of(asked[spot]) != head_of(keeping[spot]):
            told.append(repr(("unlike", spot)))
    for first, spot in itertools.permutations(both, 2):
        if isinstance(asked[first], str) and asked[first] == asked[spot] and keeping[first] != keeping[spot]:
            told.append(repr(("two", first, spot)))
    return told


def first_bar(ask, kept):
    """The first bar of 44 in reading order, or None."""
    asked, keeping = parts_of(ask), parts_of(kept)
    for spot, part in asked.items():
        if not isinstance(part, str):
            if head_of(keeping[spot]) != part[0]:
                return ("unlike", spot)
        else:
            first = [place for place in asked if asked[place] == part][0]
            if keeping[first] != keeping[spot]:
                return ("two", first, spot)
    return None


def rows_behind(one, other, rows):
    """All rows that hold behind these rows, as Python writes them."""
    sides = (parts_of(one), parts_of(other))
    told = [((0, spot), (1, spot), ("over",)) for spot in sides[0] if spot in sides[1]]
    for side in (0, 1):
        spots = [spot for spot, part in sides[side].items() if isinstance(part, str)]
        for a, b in itertools.product(spots, repeat=2):
            if sides[side][a] == sides[side][b]:
                told.append(((side, a), (side, b), ("letter",)))
    for i, (a, b, _) in enumerate(rows):
        told.append((b, a, ("turned", i)))
        parts = (sides[a[0]][a[1]], sides[b[0]][b[1]])
        if not isinstance(parts[0], str) and head_of(parts[0]) == head_of(parts[1]):
            for k in range(len(parts[0]) - 1):
                told.append(((a[0], a[1] + (k,)), (b[0], b[1] + (k,)), ("part", i, k)))
        for j, (c, d, _) in enumerate(rows):
            if b == c:
                told.append((a, d, ("joined", i, j)))
    return [repr(row) for row in told]


def first_wrong(one, other, rows):
    for number, row in enumerate(rows):
        if repr(row) not in rows_behind(one, other, rows[:number]):
            return number
    return None


def is_paper(one, other, thing):
    if not isinstance(thing, tuple) or len(thing) < 2 or not isinstance(thing[1], (list, tuple)):
        return False
    rows = thing[1]
    if not 1 <= len(rows) <= 1000 or first_wrong(one, other, rows) is not None:
        return False
    sides = (parts_of(one), parts_of(other))
    if len(thing) == 2:
        heads = [head_of(sides[side][spot]) for side, spot in rows[-1][:2]]
        letters = [isinstance(sides[side][spot], str) for side, spot in rows[-1][:2]]
        return repr(thing[0]) == "'clash'" and letters == [False, False] and heads[0] != heads[1]
    if len(thing) != 3 or repr(thing[0]) != "'ring'" or not isinstance(thing[2], (list, tuple)) or not thing[2]:
        return False
    # All turns that can follow on a turn by one of the rows, as Python writes them.
    for turn, behind in zip(thing[2], list(thing[2][1:]) + [thing[2][0]]):
        good = []
        for i, (_, (side, spot), _) in enumerate(rows):
            for below in sides[side]:
                if len(below) > len(spot) and below[:len(spot)] == spot:
                    for j, row in enumerate(rows):
                        if row[0] == (side, below):
                            good.append((repr((i, below)), repr(j)))
        if not isinstance(behind, tuple) or not behind or (repr(turn), repr(behind[0])) not in good:
            return False
    return True
