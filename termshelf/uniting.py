"""What two terms become together, found without the rows that would show it."""


class Uniting:
    """Two terms that are to become one; the signs of both stand in one list, and parts are called by places in it.

    Letters that must become the same stand in one class, which is called by its root, a place of one of them. A class
    whose letters must become some part that begins with a word has such a part as its bearer.
    """

    def __init__(self, one, other):
        self._table = one.words().table()
        self._shift = len(one)
        self._signs = one.signs() + other.signs()
        self._ends = one.ends() + [self._shift + end for end in other.ends()]
        self._first_places = ({}, {})
        self._roots = {}
        self._bearers = {}
        self._become = {}
        for at, sign in enumerate(self._signs):
            if sign not in self._table:
                self._roots[at] = self._first_places[0 if at < self._shift else 1].setdefault(sign, at)
        self._whole = self._part_signs(0) if self._united() else None

    def _united(self):
        """Make parts the same, pair by pair, until nothing is left to do; whether no two words clash."""
        todo = [(0, self._shift)]
        done = 0
        while done < len(todo):
            pairs = self._walked(todo[done][0], todo[done][1])
            if pairs is None:
                return False
            # In a ring the same pairs would come again and again.
            todo.extend([pair for pair in pairs if pair not in todo])
            done += 1
        return True

    def _walked(self, one, other):
        """Walk two parts side by side; told are the pairs that must be walked as well, None where words clash."""
        pairs = []
        end = self._ends[one]
        while one < end:
            words = [sign for sign in (self._signs[one], self._signs[other]) if sign in self._table]
            if len(words) < 2:
                pairs.extend(self._joined(one, other))
                one = self._ends[one]
                other = self._ends[other]
            elif words[0] == words[1]:
                one += 1
                other += 1
            else:
                return None
        return pairs

    def _joined(self, one, other):
        """Make two parts the same, at least one of which is a letter; told is the pair of bearers, where it has two."""
        if one not in self._roots:
            one, other = other, one
        root = self._root(one)
        bearers = [self._bearers.get(root)]
        if other in self._roots:
            old = root
            root = self._root(other)
            if old == root:
                return []
            self._roots[old] = root
            other = self._bearers.get(root)
        bearers = [bearer for bearer in bearers + [other] if bearer is not None]
        if bearers:
            self._bearers[root] = bearers[0]
        return [tuple(bearers)] if len(bearers) == 2 else []

    def _root(self, at):
        while self._roots[at] != at:
            at = self._roots[at]
        return at

    def _part_signs(self, at):
        """The signs of what a part becomes, None where it would have to become a part of itself."""
        told = []
        for place in range(at, self._ends[at]):
            if place in self._roots:
                signs = self._letter_signs(place)
                if signs is None:
                    return None
                told.extend(signs)
            else:
                told.append(self._signs[place])
        return told

    def _letter_signs(self, at):
        root = self._root(at)
        if root not in self._become:
            # This stands there as long as it is looked for, and is found where a ring comes back to it.
            self._become[root] = None
            bearer = self._bearers.get(root)
            self._become[root] = [f"N{root}"] if bearer is None else self._part_signs(bearer)
        return self._become[root]

    def whole(self):
        """The signs of what both become, with any letters, None where they don't meet."""
        return self._whole

    def becoming(self, side):
        """The signs of what each letter of a side becomes, of two terms that meet."""
        firsts = self._first_places[side]
        return {letter: self._letter_signs(firsts[letter]) for letter in firsts}
