"""A reckoning of two terms that don't meet: which of their parts must become the same, row by row, until they can't."""

# By the word of a why: how long it is, and how many numbers of rows ahead stand just behind the word.
WHY_LONG = {"over": 1, "letter": 1, "turned": 2, "joined": 3, "part": 3}
WHY_ROWS = {"over": 0, "letter": 0, "turned": 1, "joined": 2, "part": 1}


class Reckoning:
    """Parts are called by numbers, those of the one ahead of those of the other one.

    Parts that must become the same stand in one class, which is called by its root, one of them. For each other
    part of a class a row is kept that has this part ahead and the root behind. So each row can be found in few
    steps, and those of two terms of sixteen signs stay far below a thousand.
    """

    def __init__(self, one, other):
        self._table = one.words().table()
        self._signs = one.signs() + other.signs()
        self._places = [(0, spot) for spot in one.spots()] + [(1, spot) for spot in other.spots()]
        self._numbers = {place: number for number, place in enumerate(self._places)}
        self._rows = []
        self._roots = list(range(len(self._signs)))
        self._ways = [None] * len(self._signs)
        self._members = [[number] for number in self._roots]
        self._bearers = [number if sign in self._table else None for number, sign in enumerate(self._signs)]
        self._todo = self._firsts()
        self._clash = self._closed()
        self._ended = {} if self._clash is not None else self._ending()

    def _firsts(self):
        """What must become the same from the beginning: parts at one spot, and letters of one side."""
        pairs = []
        first = {}
        for number, (side, spot) in enumerate(self._places):
            if side == 0 and (1, spot) in self._numbers:
                pairs.append((number, self._numbers[(1, spot)], ("over",)))
            sign = self._signs[number]
            if (side, sign) in first:
                pairs.append((number, first[(side, sign)], ("letter",)))
            elif sign not in self._table:
                first[(side, sign)] = number
        return pairs

    def _closed(self):
        """Join classes until nothing is left to do; the number of the row that clashes, None where none does."""
        done = 0
        while done < len(self._todo):
            a, b, why = self._todo[done]
            done += 1
            if self._roots[a] != self._roots[b]:
                bearers = self._merged(self._row(a, b, why))
                if None not in bearers:
                    row = self._way(bearers[0], bearers[1])
                    if self._signs[bearers[0]] != self._signs[bearers[1]]:
                        return row
                    self._todo.extend(self._part_pairs(row))
        return None

    def _part_pairs(self, row):
        a, b, _ = self._rows[row]
        return [(self._part(a, k), self._part(b, k), ("part", row, k)) for k in range(self._many_parts(a))]

    def _many_parts(self, number):
        return self._table.get(self._signs[number], 0)

    def _part(self, number, k):
        side, spot = self._places[number]
        return self._numbers[(side, spot + (k,))]

    def _row(self, a, b, why):
        self._rows.append((a, b, why))
        return len(self._rows) - 1

    def _turned(self, row):
        a, b, _ = self._rows[row]
        return self._row(b, a, ("turned", row))

    def _joined(self, row, behind):
        """A row of both, None standing for a part that is the same as itself, which needs no row."""
        if row is None:
            return behind
        if behind is None:
            return row
        return self._row(self._rows[row][0], self._rows[behind][1], ("joined", row, behind))

    def _back(self, number):
        """A row from the root to a part."""
        return None if self._ways[number] is None else self._turned(self._ways[number])

    def _way(self, a, b):
        """A row that has two parts of a class, unlike ones."""
        return self._joined(self._ways[a], self._back(b))

    def _merged(self, row):
        """Join the classes of a row's parts; told are the parts with a word that stood for them."""
        a, b, _ = self._rows[row]
        # Only the ways of the smaller class are made anew, so that there are few rows.
        if len(self._members[self._roots[a]]) > len(self._members[self._roots[b]]):
            row = self._turned(row)
            a, b = b, a
        old = self._roots[a]
        new = self._roots[b]
        over = self._joined(self._joined(self._back(a), row), self._ways[b])
        for number in self._members[old]:
            self._ways[number] = self._joined(self._ways[number], over)
            self._roots[number] = new
        self._members[new].extend(self._members[old])
        bearers = (self._bearers[old], self._bearers[new])
        if self._bearers[new] is None:
            self._bearers[new] = self._bearers[old]
        return bearers

    def _part_roots(self, root):
        """The roots of the parts that what a class becomes has."""
        bearer = self._bearers[root]
        if bearer is None:
            return []
        return [self._roots[self._part(bearer, k)] for k in range(self._many_parts(bearer))]

    def _class_roots(self):
        return [number for number, root in enumerate(self._roots) if number == root]

    def _ending(self):
        """The roots of the classes from which parts lead to an end, and not round a ring."""
        ended = {}
        growing = True
        while growing:
            growing = False
            for root in self._class_roots():
                if root not in ended and all([part in ended for part in self._part_roots(root)]):
                    ended[root] = True
                    growing = True
        return ended

    def _ring(self):
        """Pairs (part, bearer) of a class each; the next one's part is one of the bearer's, round and round."""
        root = [number for number in self._class_roots() if number not in self._ended][0]
        seen = []
        while root not in seen:
            seen.append(root)
            root = self._roots[self._endless_part(root)]
        ring = seen[seen.index(root):]
        return [(self._endless_part(ring[at - 1]), self._bearers[ring[at]]) for at in range(len(ring))]

    def _endless_part(self, root):
        bearer = self._bearers[root]
        parts = [self._part(bearer, k) for k in range(self._many_parts(bearer))]
        return [part for part in parts if self._roots[part] not in self._ended][0]

    def _turns(self):
        """Turns of the ring, each a row and the number of the part to which it leads."""
        # Where the part itself bears the word nothing turns there, and the turn ahead leads further down.
        pairs = [pair for pair in self._ring() if pair[0] != pair[1]]
        rows = [self._way(pair[0], pair[1]) for pair in pairs]
        return [(rows[at], pairs[(at + 1) % len(pairs)][0]) for at in range(len(pairs))]

    def _needed(self, rows):
        """The numbers of the rows on which some rows stand, these too, rising."""
        needed = {row: True for row in rows}
        for row in reversed(range(len(self._rows))):
            if row in needed:
                why = self._rows[row][2]
                for ahead in why[1:1 + WHY_ROWS[why[0]]]:
                    needed[ahead] = True
        return sorted(list(needed))

    def _told_row(self, row, numbers):
        a, b, why = self._rows[row]
        many = 1 + WHY_ROWS[why[0]]
        ahead = tuple([numbers[number] for number in why[1:many]])
        return (self._places[a], self._places[b], why[:1] + ahead + why[many:])

    def _told_rows(self, wanted):
        """The rows on which some rows stand, numbered anew, and their new numbers by the old ones."""
        needed = self._needed(wanted)
        numbers = {row: number for number, row in enumerate(needed)}
        return [self._told_row(row, numbers) for row in needed], numbers

    def paper(self):
        """The paper that both don't meet: a clash, or else a ring."""
        if self._clash is not None:
            rows, _ = self._told_rows([self._clash])
            return ("clash", rows)
        turns = self._turns()
        rows, numbers = self._told_rows([row for row, _ in turns])
        return ("ring", rows, [(numbers[row], self._places[part][1]) for row, part in turns])
