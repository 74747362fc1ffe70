"""Walks of a tree by signs for an ask, one walk for each way of asking."""

from termshelf.signs import term_ends


class SignWalk:
    """One walk. A node is told by its path, and goes with the place of the ask's sign that is looked at from there."""

    def __init__(self, tree, way, ask):
        self._tree = tree
        self._table = ask.words().table()
        # How the ask's letters are called says nothing, so the normal form's do by all ways.
        self._signs = ask.normal_signs()
        self._ends = term_ends(self._table, self._signs)
        # In their order, since from each node on all beneath it are gone to ahead of the next one.
        self._gone = []
        if way == "instances":
            self._instances((), 0, {})
        elif way == "above":
            self._above((), 0, {})
        elif way == "meets":
            self._meets((), 0)
        else:
            self._variants((), 0)

    def paths(self):
        """The paths of all nodes that are gone to."""
        return [path for path, _ in self._gone]

    def whole_paths(self):
        """The paths of the nodes that are gone to when the ask has no sign left."""
        return [path for path, at in self._gone if at == len(self._signs)]

    def _come(self, path, at):
        """Go to a node; whether the ask has a sign left there."""
        self._gone.append((path, at))
        return at < len(self._signs)

    def _has_child(self, path, sign):
        return sign in self._tree.signs_behind(path)

    def _instances(self, path, at, parts):
        """On from a node; parts are what stands in the path for the letters that the ask had ahead."""
        if not self._come(path, at):
            return
        sign = self._signs[at]
        if sign in self._table:
            if self._has_child(path, sign):
                self._instances(path + (sign,), at + 1, parts)
        elif sign in parts:
            self._along(path, at, parts)
        else:
            for jump in self._tree.jumps(path):
                self._instances(jump, at + 1, {**parts, sign: jump[len(path):]})

    def _along(self, path, at, parts):
        """Along the signs that stand in the path already for a letter, as far as there are such children."""
        part = parts[self._signs[at]]
        for sign in part[:-1]:
            if not self._has_child(path, sign):
                return
            path = path + (sign,)
            # Within the letter's part no sign of the ask is looked at.
            self._gone.append((path, None))
        if self._has_child(path, part[-1]):
            self._instances(path + part[-1:], at + 1, parts)

    def _above(self, path, at, parts):
        """On from a node; parts are the ask's, which the letters that the path has had stand for."""
        if not self._come(path, at):
            return
        part = self._signs[at:self._ends[at]]
        for sign in self._tree.signs_behind(path):
            if sign in self._table:
                if sign == part[0]:
                    self._above(path + (sign,), at + 1, parts)
            elif parts.get(sign, part) == part:
                self._above(path + (sign,), self._ends[at], {**parts, sign: part})

    def _meets(self, path, at):
        if not self._come(path, at):
            return
        if self._signs[at] in self._table:
            for sign in self._tree.signs_behind(path):
                if sign not in self._table:
                    self._meets(path + (sign,), self._ends[at])
                elif sign == self._signs[at]:
                    self._meets(path + (sign,), at + 1)
        else:
            for jump in self._tree.jumps(path):
                self._meets(jump, at + 1)

    def _variants(self, path, at):
        if self._come(path, at) and self._has_child(path, self._signs[at]):
            self._variants(path + (self._signs[at],), at + 1)
