"""Numbered rules by the words with which their left sides begin."""


def rows_by_heads(rows):
    """By each word with which left sides begin the numbered rules that have these."""
    told = {}
    for row in rows:
        told.setdefault(row[1].left().head(), []).append(row)
    return told


class Beginnings:
    """The numbered rules whose left sides have some words or fewer ahead of their first letter, by rising numbers.

    By each word that stands next in a left side it has the like of one word more. So where a term goes on with some
    words, as far as there are such, all rules are told at once that may fit there, and few others.
    """

    def __init__(self, rows):
        self._rows = rows
        self._deeper = {}

    def grow(self, row):
        """Add a rule of a greater number than those with the same first word have."""
        below = self
        for sign in row[1].ahead():
            below = below._below(sign)
        below._add_on(row)

    def rows_at(self, signs, at):
        """The numbered rules that may fit a term, told by its signs, at the part that begins at a place."""
        below = self
        # Where left sides go on with a word the term has something, too.
        while below._deeper:
            deeper = below._deeper.get(signs[at])
            if deeper is None:
                return below._rows
            below = deeper
            at += 1
        return below._rows

    def _below(self, sign):
        if sign not in self._deeper:
            self._deeper[sign] = Beginnings(list(self._rows))
        return self._deeper[sign]

    def _add_on(self, row):
        self._rows.append(row)
        for sign in self._deeper:
            self._deeper[sign]._add_on(row)


def beginnings_of(rows):
    """Of numbered rules, those of the same first word by rising numbers."""
    told = Beginnings([])
    for row in rows:
        told.grow(row)
    return told
