"""Rules, and some rules kept together, found by a shelf of their left sides."""

from termshelf.errors import Absent, NoList, NoRule, NoSpot, NotThere, NoWay, TermError, TooMany, Twice
from termshelf.kinds import shelf_of_kind
from termshelf.marks import is_list, is_whole
from termshelf.puttings import filling, signs_put
from termshelf.shelves import MOST_KEPT
from termshelf.signs import need_words, with_normal_letters
from termshelf.terms import made_term, need_like, need_term_of, need_two_small

MOST_RULES = 40

_NOTE_SIGNS = "abcdefghijklmnopqrstuvwxyz"

# The kinds of shelf by which rules are found, and how the shelves call them.
_KINDS = {"plain": "plain", "signs": "signs", "puts": "puttings"}


class Rule:
    """A rule; it never changes."""

    def __init__(self, left, right):
        need_two_small(left, right)
        letters = left.letters()
        if left.head() in letters:
            raise NoRule(left)
        if not all([letter in letters for letter in right.letters()]):
            raise NoRule(right)
        self._left = left
        self._right = right

    def words(self):
        return self._left.words()

    def left(self):
        return self._left

    def right(self):
        return self._right

    def normal(self):
        words = self.words()
        signs = with_normal_letters(words.table(), self._left.signs() + self._right.signs())
        many = len(self._left)
        return Rule(made_term(words, signs[:many]), made_term(words, signs[many:]))

    def __eq__(self, other):
        return isinstance(other, Rule) and self._left == other._left and self._right == other._right

    def __str__(self):
        return f"{self._left} -> {self._right}"

    def __repr__(self):
        return f"Rule({str(self)!r})"

    def rewritten_at(self, term, spot):
        need_term_of(self.words(), term)
        at = term.place_at(spot)
        if at is None:
            raise NoSpot(spot)
        return self.made_of(term, at, term.part_from(at))

    def made_of(self, term, at, part):
        """What a term becomes at the part that begins at a place among its signs, None where the rule doesn't fit."""
        filled = filling(self._left, part, {})
        if filled is None:
            return None
        signs = term.signs()
        return made_term(term.words(), signs[:at] + signs_put(self._right.signs(), filled) + signs[at + len(part):])


def _note_of(number):
    """A name for the rule of a number, by which it is found on the shelf."""
    note = _NOTE_SIGNS[number % len(_NOTE_SIGNS)]
    while number >= len(_NOTE_SIGNS):
        number //= len(_NOTE_SIGNS)
        note = _NOTE_SIGNS[number % len(_NOTE_SIGNS)] + note
    return note


def _number_of(note):
    number = 0
    for sign in note:
        number = number * len(_NOTE_SIGNS) + _NOTE_SIGNS.index(sign)
    return number


def need_rule(thing):
    if not isinstance(thing, Rule):
        raise NoRule(thing)


class Rules:
    """Some rules, each under a number of its own; a shelf keeps their left sides, with a note for each rule."""

    def __init__(self, words, *, by="plain"):
        need_words(words)
        if not isinstance(by, str) or by not in _KINDS:
            raise NoWay(by)
        self._shelf = shelf_of_kind(_KINDS[by], words, MOST_KEPT)
        self._rules = {}
        self._next = 0
        self._log = []

    def put(self, rule):
        number = self._put(rule)
        self._log.append("put")
        return number

    def drop(self, number):
        self._drop(number)
        self._log.append("drop")

    def put_all(self, rules):
        if not is_list(rules, 0, MOST_RULES):
            raise NoList(rules)
        before = self._next
        self._log.append("begin")
        try:
            for rule in rules:
                self._put(rule)
                self._log.append("put")
        except (TermError, Absent):
            for number in range(before, self._next):
                self._drop(number)
            self._next = before
            self._log.extend(["back", "end"])
            raise
        self._log.append("end")
        return list(range(before, self._next))

    def log(self):
        return list(self._log)

    def words(self):
        return self._shelf.words()

    def rules(self):
        return [(number, self._rules[number]) for number in self._rules]

    def rule_of(self, number):
        if not self.has_number(number):
            raise NotThere(number)
        return self._rules[number]

    def shelf(self):
        return self._shelf.copied()

    def __len__(self):
        return len(self._rules)

    def __eq__(self, other):
        return isinstance(other, Rules) and self.words() == other.words() and self._rules == other._rules

    def __str__(self):
        return "; ".join([f"{number} {self._rules[number]}" for number in self._rules])

    def __repr__(self):
        return f"Rules({str(self)!r})"

    def has_number(self, thing):
        """Whether any thing is the number of a rule that is kept."""
        return is_whole(thing, 0, self._next - 1) and thing in self._rules

    def found_by(self, way, part):
        """The rules whose left sides an ask tells: tuples (number, rule, answer), by rising numbers."""
        told = []
        for answer in self._shelf.ask(way, part):
            told.extend([(_number_of(note), answer) for note in answer.notes()])
        return [(number, self._rules[number], answer) for number, answer in sorted(told, key=lambda row: row[0])]

    def _put(self, rule):
        need_rule(rule)
        need_like(self.words(), rule)
        if rule in list(self._rules.values()):
            raise Twice(rule)
        if len(self._rules) == MOST_RULES:
            raise TooMany(MOST_RULES + 1)
        number = self._next
        # The shelf refuses a ninth note, and so a rule where eight are kept whose left sides are variants of its own.
        self._shelf.put(rule.left(), _note_of(number))
        self._rules[number] = rule
        self._next += 1
        return number

    def _drop(self, number):
        self._shelf.take(self.rule_of(number).left(), _note_of(number))
        del self._rules[number]


def need_rules(thing):
    if not isinstance(thing, Rules):
        raise NoRule(thing)


def need_numbered(thing):
    """Refuse what is no list of tuples of a number and a rule, as rules tell theirs."""
    if not is_list(thing, 0, MOST_RULES):
        raise NoList(thing)
    least = 0
    for row in thing:
        if not isinstance(row, tuple) or len(row) != 2 or not isinstance(row[1], Rule):
            raise NoList(thing)
        if not isinstance(row[0], int) or isinstance(row[0], bool) or row[0] < least:
            raise NoList(thing)
        least = row[0] + 1
