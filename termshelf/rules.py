"""Rules, and some rules kept together, found by a shelf of their left sides."""

from termshelf.beginnings import beginnings_of
from termshelf.errors import Absent, NoList, NoRule, NoSpot, NotThere, NoWay, TermError, TooMany, Twice
from termshelf.kinds import shelf_of_kind
from termshelf.marks import is_list
from termshelf.puttings import fill_in, with_given
from termshelf.shelves import MOST_KEPT, MOST_NOTES, filled_shelf
from termshelf.signs import need_words, with_normal_letters
from termshelf.terms import made_term, need_like, need_term_of, need_two_small

MOST_RULES = 40

# A left side has as many of these as there are rules with variants of it.
_NOTES = "abcdefgh"

# The kinds of shelf by which rules are found, and how the shelves call them.
_KINDS = {"plain": "plain", "signs": "signs", "puts": "puttings"}


class Rule:
    """A rule; it never changes."""

    def __init__(self, left, right):
        need_two_small(left, right)
        letters = left.letters()
        if left.head() in letters:
            raise NoRule(left)
        if not all([letter in letters for letter in right.letters()]):
            raise NoRule(right)
        self._left = left
        self._right = right
        # The signs ahead of the first letter are looked at first, all at once, as most terms haven't even these.
        signs = left.signs()
        many = signs.index(letters[0]) if letters else len(signs)
        self._ahead = signs[:many]
        self._behind = signs[many:]
        self._made = right.signs()
        self._kept_text = None

    def words(self):
        return self._left.words()

    def left(self):
        return self._left

    def right(self):
        return self._right

    def normal(self):
        words = self.words()
        signs = with_normal_letters(words.table(), self._left.signs() + self._right.signs())
        many = len(self._left)
        return Rule(made_term(words, signs[:many]), made_term(words, signs[many:]))

    def __eq__(self, other):
        return isinstance(other, Rule) and self._left == other._left and self._right == other._right

    def __str__(self):
        return f"{self._left} -> {self._right}"

    def __repr__(self):
        return f"Rule({str(self)!r})"

    def rewritten_at(self, term, spot):
        need_term_of(self.words(), term)
        at = term.place_at(spot)
        if at is None:
            raise NoSpot(spot)
        return self.made_of(term, at)

    def made_of(self, term, at):
        """What a term becomes at the part that begins at a place among its signs, None where the rule doesn't fit."""
        words = term.words()
        signs = self.signs_made(words.table(), term.signs(), at)
        return None if signs is None else made_term(words, signs)

    def signs_made(self, places, signs, at):
        """What the signs of a term become at the part that begins at a place, None where the rule doesn't fit there."""
        behind = at + len(self._ahead)
        if signs[at:behind] != self._ahead:
            return None
        given = {}
        end = fill_in(places, self._behind, signs, behind, given)
        return None if end is None else signs[:at] + with_given(self._made, given) + signs[end:]

    def ahead(self):
        """The signs of the left side ahead of its first letter."""
        return list(self._ahead)

    def kept_text(self):
        """The text of the left side's normal form, as a shelf keeps it."""
        if self._kept_text is None:
            self._kept_text = " ".join(self._left.normal_signs())
        return self._kept_text


def need_rule(thing):
    if not isinstance(thing, Rule):
        raise NoRule(thing)


class Rules:
    """Some rules, each under a number of its own, and by the text of each left side's normal form the numbers of those
    that have it.

    A shelf keeps these normal forms, and finds the rules by them. It is told what came and went when it is asked for
    the first time since.
    """

    def __init__(self, words, *, by="plain"):
        need_words(words)
        if not isinstance(by, str) or by not in _KINDS:
            raise NoWay(by)
        self._words = words
        self._kind = _KINDS[by]
        self._rules = {}
        self._numbers = {}
        self._next = 0
        self._log = []
        self._shelf = self._empty_shelf()
        self._found = None
        self._beginnings = None

    def put(self, rule):
        number = self._put(rule)
        self._log.append("put")
        return number

    def drop(self, number):
        self._drop(number)
        self._log.append("drop")

    def put_all(self, rules):
        if not is_list(rules, 0, MOST_RULES):
            raise NoList(rules)
        before = self._next
        self._log.append("begin")
        try:
            for rule in rules:
                self._put(rule)
                self._log.append("put")
        except (TermError, Absent):
            for number in range(before, self._next):
                self._drop(number)
            self._next = before
            self._log.extend(["back", "end"])
            raise
        self._log.append("end")
        return list(range(before, self._next))

    def log(self):
        return list(self._log)

    def words(self):
        return self._words

    def rules(self):
        return [(number, self._rules[number]) for number in self._rules]

    def rule_of(self, number):
        if not self.has_number(number):
            raise NotThere(number)
        return self._rules[number]

    def shelf(self):
        groups = list(self._numbers.values())
        rows = [(self._rules[numbers[0]].left(), _NOTES[:len(numbers)]) for numbers in groups]
        return filled_shelf(self._empty_shelf(), rows)

    def __len__(self):
        return len(self._rules)

    def __eq__(self, other):
        return isinstance(other, Rules) and self._words == other._words and self._rules == other._rules

    def __str__(self):
        return "; ".join([f"{number} {self._rules[number]}" for number in self._rules])

    def __repr__(self):
        return f"Rules({str(self)!r})"

    def has_number(self, thing):
        """Whether any thing is the number of a rule that is kept."""
        # Python counts True and False as numbers, this package doesn't.
        return isinstance(thing, int) and not isinstance(thing, bool) and thing in self._rules

    def by_heads(self):
        """By each word the rules whose left sides begin with it, tuples (number, rule) by rising numbers.

        They are found by the shelf, and kept until a rule is put in or dropped.
        """
        if self._found is None:
            self._bring_up_shelf()
            self._found = {name: self._found_by(name) for name in self._words.names()}
        return self._found

    def beginnings(self):
        """The rules by the words with which their left sides begin, likewise found and kept."""
        if self._beginnings is None:
            self._beginnings = beginnings_of(self._found_rows())
        return self._beginnings

    def beginnings_among(self, numbers):
        """The like of the rules of some numbers alone."""
        return beginnings_of([row for row in self._found_rows() if row[0] in numbers])

    def _put(self, rule):
        need_rule(rule)
        need_like(self._words, rule)
        alike = self._numbers.get(rule.kept_text(), [])
        if any([self._rules[number] == rule for number in alike]):
            raise Twice(rule)
        if len(self._rules) == MOST_RULES:
            raise TooMany(MOST_RULES + 1)
        if len(alike) == MOST_NOTES:
            raise TooMany(MOST_NOTES + 1)
        number = self._next
        self._rules[number] = rule
        self._numbers[rule.kept_text()] = alike + [number]
        self._next += 1
        self._forget()
        return number

    def _drop(self, number):
        text = self.rule_of(number).kept_text()
        del self._rules[number]
        self._numbers[text].remove(number)
        if self._numbers[text] == []:
            del self._numbers[text]
        self._forget()

    def _forget(self):
        self._found = None
        self._beginnings = None

    def _found_rows(self):
        found = self.by_heads()
        return [row for name in found for row in found[name]]

    def _empty_shelf(self):
        return shelf_of_kind(self._kind, self._words, MOST_KEPT)

    def _bring_up_shelf(self):
        """Take from the shelf the left sides that no rule has any more, and put those in that it lacks."""
        note = _NOTES[0]
        kept = {str(term): term for term in self._shelf.terms()}
        for text in kept:
            if text not in self._numbers:
                self._shelf.take(kept[text], note)
        for text in self._numbers:
            if text not in kept:
                self._shelf.put(self._rules[self._numbers[text][0]].left(), note)

    def _found_by(self, name):
        ask = made_term(self._words, [name] + [f"N{number}" for number in range(self._words.places(name))])
        # Candidates may be more than those that are asked for.
        texts = [str(kept) for kept in self._shelf.candidates("instances", ask) if kept.head() == name]
        numbers = sorted([number for text in texts for number in self._numbers[text]])
        return [(number, self._rules[number]) for number in numbers]


def need_rules(thing):
    if not isinstance(thing, Rules):
        raise NoRule(thing)


def need_numbered(thing):
    """Refuse what is no list of tuples of a number and a rule, as rules tell theirs."""
    if not is_list(thing, 0, MOST_RULES):
        raise NoList(thing)
    least = 0
    for row in thing:
        if not isinstance(row, tuple) or len(row) != 2 or not isinstance(row[1], Rule):
            raise NoList(thing)
        if not isinstance(row[0], int) or isinstance(row[0], bool) or row[0] < least:
            raise NoList(thing)
        least = row[0] + 1
