"""Shelves, trees and bars told once more, as plainly as can be, on the nested tuples of plain.py."""

import itertools

from tests import plain


def rank(words, tree):
    names = words.names()
    return [(1, names.index(sign)) if sign in names else (0, int(sign[1:])) for sign in plain.signs_of(tree)]


def in_order(words, trees):
    """Normal ones in order, each once."""
    unlike = []
    for tree in trees:
        if tree not in unlike:
            unlike.append(tree)
    return sorted(unlike, key=lambda tree: rank(words, tree))


def tells(way, ask, kept):
    if way == "instances":
        return plain.instance(ask, kept, {}) is not None
    if way == "above":
        return plain.instance(kept, ask, {}) is not None
    if way == "meets":
        return plain.whole(ask, kept) is not None
    return plain.normal(ask) == plain.normal(kept)


def answer(way, ask, kept):
    """The whole and what both's letters become, as nested tuples."""
    whole = {"above": ask, "meets": plain.whole(ask, kept)}.get(way, kept)
    return whole, plain.instance(ask, whole, {}), plain.instance(kept, whole, {})


def nodes(words, trees):
    """The paths of a tree by signs, in order."""
    rows = [plain.signs_of(tree) for tree in trees]
    paths = {tuple(row[:long]) for row in rows for long in range(len(row) + 1)} | {()}
    names = words.names()
    return sorted(paths, key=lambda path: [(1, names.index(s)) if s in names else (0, int(s[1:])) for s in path])


def is_whole(words, signs):
    lacking = 1
    for sign in signs:
        if lacking == 0:
            return False
        lacking += (words.places(sign) if sign in words.names() else 0) - 1
    return lacking == 0


def jumps(words, trees, path):
    paths = nodes(words, trees)
    return [node for node in paths if node[:len(path)] == path and is_whole(words, node[len(path):])]


def walk(words, trees, way, ask):
    """The paths that are gone to, in order, and the ends among them: by going on from nodes, one after another."""
    paths = nodes(words, trees)
    signs = plain.signs_of(plain.normal(ask) if way == "variants" else ask)
    gone, ends, todo = [()], [], [((), 0, {})]

    def part_at(at):
        long = [long for long in range(1, len(signs) + 1) if is_whole(words, signs[at:at + long])][0]
        return signs[at:at + long]

    while todo:
        path, at, had = todo.pop(0)
        if at == len(signs):
            ends.append(path)
            continue
        sign, part = signs[at], part_at(at)
        children = [node for node in paths if len(node) == len(path) + 1 and node[:-1] == path]
        letters = [child for child in children if child[-1] not in words.names()]
        word = [(path + (sign,), at + 1, had)] if sign in words.names() and path + (sign,) in children else []
        behind = []
        if way == "variants":
            behind = [(path + (sign,), at + 1, had)] if path + (sign,) in children else []
        elif way == "above":
            for child in letters:
                if had.get(child[-1], part) == part:
                    behind.append((child, at + len(part), {**had, child[-1]: part}))
            behind += word
        elif sign in words.names():
            behind += word
            if way == "meets":
                behind += [(child, at + len(part), had) for child in letters]
        elif way == "instances" and sign in had:
            steps = [path + had[sign][:long] for long in range(1, len(had[sign]) + 1)]
            there = list(itertools.takewhile(lambda step: step in paths, steps))
            gone.extend(there[:-1] if there == steps else there)
            behind = [(steps[-1], at + 1, had)] if there == steps else []
        else:
            behind = [(jump, at + 1, {**had, sign: jump[len(path):]}) for jump in jumps(words, trees, path)]
        gone.extend([path for path, _, _ in behind])
        todo.extend(behind)
    assert len(gone) == len(set(gone)), gone
    return sorted(gone, key=paths.index), sorted(ends, key=paths.index)


def common(trees):
    """The common part, a hole being the letter `?`."""
    if len({plain.head_of(tree) for tree in trees}) > 1:
        return "?"
    if isinstance(trees[0], str):
        return trees[0]
    return (trees[0][0],) + tuple([common(parts) for parts in zip(*[tree[1:] for tree in trees])])


def put_tree(words, trees):
    """A tuple of the terms, their common part, and the like for each child."""
    pattern = common(trees)
    holes = [spot for spot, part in plain.parts_of(pattern).items() if part == "?"]
    if not holes:
        return trees, pattern, []
    groups = {}
    for tree in trees:
        groups.setdefault(plain.head_of(plain.parts_of(tree)[holes[0]]), []).append(tree)
    order = sorted(groups, key=lambda sign: rank(words, sign)[0])
    return trees, pattern, [put_tree(words, groups[sign]) for sign in order]


def put_nodes(tree):
    """All nodes by their paths, each ahead of those beneath it."""
    told = {(): tree}
    for number, child in enumerate(tree[2]):
        told.update({(number,) + path: below for path, below in put_nodes(child).items()})
    return told


def _clash(one, other):
    if "?" in (one, other):
        return False
    if plain.head_of(one) != plain.head_of(other):
        return True
    return not isinstance(one, str) and any(_clash(a, b) for a, b in zip(one[1:], other[1:]))


def bars(words, pattern, way, ask):
    """All that shows that a pattern bars an ask, as tuples."""
    if way == "variants":
        ask = plain.normal(ask)
    has, asks = plain.parts_of(pattern), plain.parts_of(ask)
    both = [spot for spot in has if spot in asks]
    if way == "meets":
        fresh = iter(range(100))
        own = plain.put_each(pattern, lambda letter: f"H{next(fresh)}" if letter == "?" else letter)
        return [("apart",)] if plain.whole(ask, own) is None else []
    told = []
    for spot in both:
        one, other = (asks[spot], has[spot]) if way == "instances" else (has[spot], asks[spot])
        word = not isinstance(one, str) or (way == "variants" and one != "?")
        if word and other != "?" and plain.head_of(one) != plain.head_of(other):
            told.append(("sign", spot))
    if way == "variants":
        return told
    one, other = (asks, has) if way == "instances" else (has, asks)
    for first, spot in itertools.permutations(both, 2):
        if first < spot and isinstance(one[spot], str) and one[first] == one[spot] != "?":
            if _clash(other[first], other[spot]) if way == "instances" else other[first] != other[spot]:
                told.append(("letter", first, spot))
    return told


def first_bar(words, pattern, way, ask):
    """The bar at the first spot, and with the first one ahead of it where it has two."""
    told = bars(words, pattern, way, ask)
    if way == "above":
        first = {}
        for spot, part in plain.parts_of(pattern).items():
            if isinstance(part, str):
                first.setdefault(part, spot)
        told = [bar for bar in told if len(bar) < 3 or bar[1] in first.values()]
    # Spots of one term stand in reading order as Python orders tuples.
    return min(told, key=lambda bar: (bar[-1], bar[1:]) if len(bar) > 1 else ((), ()), default=None)
