"""Reckonings: rows that show why two terms don't meet."""

# By the word of a why: how long it is, and how many numbers of rows ahead stand just behind the word.
WHY_LONG = {"over": 1, "letter": 1, "turned": 2, "joined": 3, "part": 3}
WHY_ROWS = {"over": 0, "letter": 0, "turned": 1, "joined": 2, "part": 1}


class Reckoning:
    """Rows are found backwards, from what can't be, by what was noted down, so that there are just those needed.

    Parts are called by places as in the uniting. Steps lead from a part to another one that must become the same: from
    letter to letter, and along each note. Two parts that must become the same are joined by a row of such steps.
    """

    def __init__(self, one, other, uniting):
        self._uniting = uniting
        self._words = one.words()
        self._signs = one.signs() + other.signs()
        self._places = [(0, spot) for spot in one.spots()] + [(1, spot) for spot in other.spots()]
        self._at = {place: at for at, place in enumerate(self._places)}
        self._notes = uniting.notes()
        self._rows = []
        self._numbers = {}

    def clash(self, one, other, number):
        """The rows of which the last one has two clashing parts of a pair."""
        last = self._noted_row(one, other, number)
        return self._told_rows()[:last + 1]

    def ring(self, pairs):
        """The rows that have the pairs of a ring, and the turns."""
        rows = [self._path_row(letter, bearer, len(self._notes)) for letter, bearer in pairs]
        letters = [letter for letter, _ in pairs]
        spots = [self._places[at][1] for at in letters[1:] + letters[:1]]
        return self._told_rows(), list(zip(rows, spots))

    def _told_rows(self):
        return [(self._places[a], self._places[b], why) for a, b, why in self._rows]

    def _row(self, a, b, why):
        """The number of a row that has these parts, one that there is already or a new one."""
        if (a, b) not in self._numbers:
            self._numbers[(a, b)] = len(self._rows)
            self._rows.append((a, b, why))
        return self._numbers[(a, b)]

    def _noted_row(self, one, other, number):
        """A row of two parts with the same spot within the parts of a pair."""
        if number == 0:
            return self._row(one, other, ("over",))
        a, b, known = self._uniting.pair(number)
        row = self._path_row(a, b, known)
        for k in self._places[one][1][len(self._places[a][1]):]:
            a, b = self._part(a, k), self._part(b, k)
            row = self._row(a, b, ("part", row, k))
        return row

    def _part(self, at, k):
        side, spot = self._places[at]
        return self._at[(side, spot + (k,))]

    def _path_row(self, a, b, known):
        """A row of two parts that the first so many notes make the same."""
        row = None
        for at, behind, note in self._path(a, b, known):
            step = self._step_row(at, behind, note)
            row = step if row is None else self._row(a, behind, ("joined", row, step))
        return row

    def _step_row(self, a, b, note):
        if note is None:
            return self._row(a, b, ("letter",))
        one, other, number = note
        row = self._noted_row(one, other, number)
        return row if a == one else self._row(a, b, ("turned", row))

    def _path(self, a, b, known):
        """The fewest steps from a part to another one."""
        # By each part that was come to: the steps that led there.
        paths = {a: []}
        todo = [a]
        done = 0
        while b not in paths:
            at = todo[done]
            done += 1
            for behind, note in self._steps(at, known):
                if behind not in paths:
                    paths[behind] = paths[at] + [(at, behind, note)]
                    todo.append(behind)
        return paths[b]

    def _steps(self, at, known):
        """The parts to which one step leads, each with its note, or None where it is the same letter."""
        told = []
        if not self._words.has(self._signs[at]):
            like = [place for place, sign in enumerate(self._signs) if sign == self._signs[at] and place != at]
            told = [(place, None) for place in like if self._places[place][0] == self._places[at][0]]
        for note in self._notes[:known]:
            if note[0] == at:
                told.append((note[1], note))
            elif note[1] == at:
                told.append((note[0], note))
        return told
